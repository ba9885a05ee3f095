package pack_test

import (
	"math"
	"slices"
	"strings"
	"testing"

	"stratigraph/api"
	"stratigraph/pack"
)

// numbers are numbers with their encodings, written out by hand.
var numbers = []struct {
	n int
	s string
}{
	{0, "\x00"},
	{1, "\x01"},
	{2, "\x02"},
	{127, "\x7f"},
	{128, "\x80\x01"},
	{129, "\x81\x01"},
	{255, "\xff\x01"},
	{256, "\x80\x02"},
	{300, "\xac\x02"},
	{1<<14 - 1, "\xff\x7f"},
	{1 << 14, "\x80\x80\x01"},
	{1<<14 + 1, "\x81\x80\x01"},
	{1<<21 - 1, "\xff\xff\x7f"},
	{1 << 21, "\x80\x80\x80\x01"},
	{1<<31 - 1, "\xff\xff\xff\xff\x07"},
	{1 << 31, "\x80\x80\x80\x80\x08"},
	{1 << 32, "\x80\x80\x80\x80\x10"},
	{1<<35 - 1, "\xff\xff\xff\xff\x7f"},
	{1 << 35, "\x80\x80\x80\x80\x80\x01"},
	{api.MaxNum, "\x80\x80\x80\x80\x80\x20"},
	{1<<56 - 1, "\xff\xff\xff\xff\xff\xff\xff\x7f"},
	{1 << 56, "\x80\x80\x80\x80\x80\x80\x80\x80\x01"},
	{1 << 62, "\x80\x80\x80\x80\x80\x80\x80\x80\x40"},
	{math.MaxInt - 1, "\xfe\xff\xff\xff\xff\xff\xff\xff\x7f"},
	{math.MaxInt, "\xff\xff\xff\xff\xff\xff\xff\xff\x7f"},
}

// tails are what may follow an encoding.
var tails = []string{"", "\x00", "\x01", "\x7f", "\x80", "\xff", "z", "\x80\x00", "\xff\xff\xff\xff\xff\xff\xff\xff\xff\xff\xff", "any text"}

// edges are numbers next to every power of 2, in rising order.
func edges() []int {
	var l []int
	for b := range 63 {
		for d := -1; d <= 1; d++ {
			l = append(l, 1<<b+d)
		}
	}
	l = append(l, math.MaxInt-1, math.MaxInt)
	slices.Sort(l)
	return slices.Compact(l)
}

func put(t *testing.T, n int) string {
	t.Helper()
	s, e := pack.Put(n)
	if e != api.OK {
		t.Fatalf("Put(%d): error %d", n, e)
	}
	return s
}

// P1.1

func TestPut(t *testing.T) {
	for _, c := range numbers {
		if s, e := pack.Put(c.n); s != c.s || e != api.OK {
			t.Errorf("Put(%d) = %q, %d; want %q, 0", c.n, s, e, c.s)
		}
	}
}

func TestPutBelowZero(t *testing.T) {
	for _, n := range []int{-1, -2, -127, -128, -129, -1 << 32, math.MinInt + 1, math.MinInt} {
		if s, e := pack.Put(n); s != "" || e != api.ErrArg {
			t.Errorf("Put(%d) = %q, %d; want an empty string, ErrArg", n, s, e)
		}
	}
}

// The digits are read here by their definition, not by Take.
func TestPutDigits(t *testing.T) {
	for _, n := range edges() {
		s := put(t, n)
		sum, worth := 0, 1
		for i := range len(s) {
			if digit := int(s[i]) % 128; digit > 0 {
				sum += digit * worth
			}
			worth *= 128
			if last := i == len(s)-1; last != (s[i] < 128) {
				t.Errorf("Put(%d) = %q: byte %d", n, s, i)
			}
		}
		if sum != n {
			t.Errorf("Put(%d) = %q, which denotes %d", n, s, sum)
		}
		if len(s) == 0 || len(s) > 1 && s[len(s)-1] == 0 {
			t.Errorf("Put(%d) = %q: no digit, or a zero digit at the end", n, s)
		}
	}
}

func TestNumbers(t *testing.T) {
	for _, c := range []struct {
		l []int
		s string
	}{
		{nil, ""},
		{[]int{}, ""},
		{[]int{0}, "\x00"},
		{[]int{0, 0, 0}, "\x00\x00\x00"},
		{[]int{127}, "\x7f"},
		{[]int{128}, "\x80\x01"},
		{[]int{1, 300}, "\x01\xac\x02"},
		{[]int{300, 1}, "\xac\x02\x01"},
		{[]int{128, 0, 127, 128}, "\x80\x01\x00\x7f\x80\x01"},
		{[]int{math.MaxInt, 0, math.MaxInt}, "\xff\xff\xff\xff\xff\xff\xff\xff\x7f\x00\xff\xff\xff\xff\xff\xff\xff\xff\x7f"},
	} {
		if s, e := pack.Numbers(c.l...); s != c.s || e != api.OK {
			t.Errorf("Numbers(%v) = %q, %d; want %q, 0", c.l, s, e, c.s)
		}
	}
	if s, e := pack.Numbers(); s != "" || e != api.OK {
		t.Errorf("Numbers() = %q, %d", s, e)
	}
}

func TestNumbersAreThePutsInOrder(t *testing.T) {
	l := edges()
	want := ""
	for _, n := range l {
		want += put(t, n)
	}
	if s, e := pack.Numbers(l...); s != want || e != api.OK {
		t.Errorf("Numbers(%v) = %q, %d; want %q", l, s, e, want)
	}
	if !slices.Equal(l, edges()) {
		t.Errorf("Numbers changed its arguments to %v", l)
	}
}

func TestNumbersBelowZero(t *testing.T) {
	for _, l := range [][]int{{-1}, {-1, 5}, {5, -1}, {0, -300, 7}, {1, 2, 3, math.MinInt}, {-1, -1}} {
		if s, e := pack.Numbers(l...); s != "" || e != api.ErrArg {
			t.Errorf("Numbers(%v) = %q, %d; want an empty string, ErrArg", l, s, e)
		}
	}
}

// P1.2

func TestTake(t *testing.T) {
	for _, c := range numbers {
		for _, tail := range tails {
			if n, rest, e := pack.Take(c.s + tail); n != c.n || rest != tail || e != api.OK {
				t.Errorf("Take(%q) = %d, %q, %d; want %d, %q, 0", c.s+tail, n, rest, e, c.n, tail)
			}
		}
	}
}

func wantTakeError(t *testing.T, s string, want api.Errno) {
	t.Helper()
	if n, rest, e := pack.Take(s); n != 0 || rest != "" || e != want {
		t.Errorf("Take(%q) = %d, %q, %d; want 0, an empty string, %d", s, n, rest, e, want)
	}
}

// ErrShort is named before ErrForm: it holds for too many digits as well.
func TestTakeShort(t *testing.T) {
	for _, digit := range []string{"\x80", "\x81", "\xac", "\xff"} {
		for n := range 30 {
			wantTakeError(t, strings.Repeat(digit, n), api.ErrShort)
		}
		wantTakeError(t, strings.Repeat(digit, 100000), api.ErrShort)
	}
	wantTakeError(t, "\x80\xff\x80", api.ErrShort)
}

func TestTakeZeroDigitAtTheEnd(t *testing.T) {
	for n := 1; n < 30; n++ {
		for _, digit := range []string{"\x80", "\x81", "\xff"} {
			for _, tail := range tails {
				wantTakeError(t, strings.Repeat(digit, n)+"\x00"+tail, api.ErrForm)
			}
		}
	}
	wantTakeError(t, "\xac\x82\x00", api.ErrForm)
}

// From 10 digits on, every number whose last digit is not 0 is above 2^63 - 1.
func TestTakeTooGreat(t *testing.T) {
	for n := 9; n < 40; n++ {
		for _, digit := range []string{"\x80", "\x81", "\xff"} {
			for _, last := range []string{"\x01", "\x02", "\x40", "\x7f"} {
				for _, tail := range tails {
					wantTakeError(t, strings.Repeat(digit, n)+last+tail, api.ErrForm)
				}
			}
		}
	}
	wantTakeError(t, strings.Repeat("\x80", 100000)+"\x01", api.ErrForm)
}

// Of the strings of 1 and 2 bytes, Take accepts those, and only those, that begin with an encoding.
func TestTakeAcceptsEncodingsOnly(t *testing.T) {
	whole := map[string]int{}
	for n := range 1 << 14 {
		whole[put(t, n)] = n
	}
	check := func(s string) {
		n, rest, e := pack.Take(s)
		for i := 1; i <= len(s); i++ {
			if want, ok := whole[s[:i]]; ok {
				if n != want || rest != s[i:] || e != api.OK {
					t.Fatalf("Take(%q) = %d, %q, %d; want %d, %q, 0", s, n, rest, e, want, s[i:])
				}
				return
			}
		}
		want := api.ErrForm
		if !strings.ContainsFunc(s, func(r rune) bool { return r < 128 }) {
			want = api.ErrShort
		}
		if n != 0 || rest != "" || e != want {
			t.Fatalf("Take(%q) = %d, %q, %d; want 0, an empty string, %d", s, n, rest, e, want)
		}
	}
	for a := range 256 {
		check(string([]byte{byte(a)}))
		for b := range 256 {
			check(string([]byte{byte(a), byte(b)}))
		}
	}
}

// P1.3

func TestFlag(t *testing.T) {
	if s := pack.Flag(false); s != "\x00" {
		t.Errorf("Flag(false) = %q", s)
	}
	if s := pack.Flag(true); s != "\x01" {
		t.Errorf("Flag(true) = %q", s)
	}
}

func TestTakeFlag(t *testing.T) {
	for _, tail := range tails {
		if on, rest, e := pack.TakeFlag("\x00" + tail); on || rest != tail || e != api.OK {
			t.Errorf("TakeFlag of 0 and %q = %v, %q, %d", tail, on, rest, e)
		}
		if on, rest, e := pack.TakeFlag("\x01" + tail); !on || rest != tail || e != api.OK {
			t.Errorf("TakeFlag of 1 and %q = %v, %q, %d", tail, on, rest, e)
		}
	}
}

func TestTakeFlagErrors(t *testing.T) {
	if on, rest, e := pack.TakeFlag(""); on || rest != "" || e != api.ErrShort {
		t.Errorf("TakeFlag of nothing = %v, %q, %d; want false, an empty string, ErrShort", on, rest, e)
	}
	for b := 2; b < 256; b++ {
		for _, tail := range tails {
			s := string([]byte{byte(b)}) + tail
			if on, rest, e := pack.TakeFlag(s); on || rest != "" || e != api.ErrForm {
				t.Errorf("TakeFlag(%q) = %v, %q, %d; want false, an empty string, ErrForm", s, on, rest, e)
			}
		}
	}
}

// texts are strings with the encodings of their lengths.
func texts() map[string]string {
	return map[string]string{
		"":                            "\x00",
		"a":                           "\x01",
		"ab":                          "\x02",
		"\x00":                        "\x01",
		"\x80\xff":                    "\x02",
		"é世":                          "\x05",
		strings.Repeat("x", 127):      "\x7f",
		strings.Repeat("x", 128):      "\x80\x01",
		strings.Repeat("\x00", 300):   "\xac\x02",
		strings.Repeat("\x80", 16383): "\xff\x7f",
		strings.Repeat("x", 16384):    "\x80\x80\x01",
	}
}

func TestText(t *testing.T) {
	for s, length := range texts() {
		if got := pack.Text(s); got != length+s {
			t.Errorf("Text of %d bytes is not %q and they, but %d bytes", len(s), length, len(got))
		}
	}
}

func TestTakeText(t *testing.T) {
	for s, length := range texts() {
		for _, tail := range tails {
			if got, rest, e := pack.TakeText(length + s + tail); got != s || rest != tail || e != api.OK {
				t.Errorf("TakeText of %q, %d bytes and %q = %d bytes, %q, %d", length, len(s), tail, len(got), rest, e)
			}
		}
	}
}

func wantTakeTextError(t *testing.T, s string, want api.Errno) {
	t.Helper()
	if a, rest, e := pack.TakeText(s); a != "" || rest != "" || e != want {
		t.Errorf("TakeText(%q) = %q, %q, %d; want two empty strings, %d", s, a, rest, e, want)
	}
}

func TestTakeTextOfTooFewBytes(t *testing.T) {
	for s, length := range texts() {
		for _, n := range []int{0, len(s) / 2, len(s) - 1} {
			if s != "" {
				wantTakeTextError(t, length+s[:n], api.ErrShort)
			}
		}
	}
	for _, n := range edges() {
		if n > 3 {
			wantTakeTextError(t, put(t, n)+"abc", api.ErrShort)
		}
	}
}

func TestTakeTextLengthErrors(t *testing.T) {
	for _, s := range []string{"", "\x80", "\xff\xff", strings.Repeat("\xff", 20)} {
		wantTakeTextError(t, s, api.ErrShort)
	}
	for _, s := range []string{"\x80\x00", "\x81\x00a", "\x82\x80\x00ab", strings.Repeat("\x80", 9) + "\x01", strings.Repeat("\xff", 12) + "\x7fabc"} {
		wantTakeTextError(t, s, api.ErrForm)
	}
}

// P1.4

func TestNumbersComeBack(t *testing.T) {
	l := edges()
	for n := range 70000 {
		l = append(l, n)
	}
	s, e := pack.Numbers(l...)
	if e != api.OK {
		t.Fatalf("Numbers: error %d", e)
	}
	for _, n := range l {
		var got int
		if got, s, e = pack.Take(s); got != n || e != api.OK {
			t.Fatalf("%d came back as %d, error %d", n, got, e)
		}
	}
	if s != "" {
		t.Errorf("%d bytes are left", len(s))
	}
}

func TestValuesComeBackWhateverFollows(t *testing.T) {
	for _, tail := range tails {
		for _, n := range edges() {
			if got, rest, e := pack.Take(put(t, n) + tail); got != n || rest != tail || e != api.OK {
				t.Errorf("%d and %q came back as %d, %q, error %d", n, tail, got, rest, e)
			}
		}
		for _, on := range []bool{false, true} {
			if got, rest, e := pack.TakeFlag(pack.Flag(on) + tail); got != on || rest != tail || e != api.OK {
				t.Errorf("%v and %q came back as %v, %q, error %d", on, tail, got, rest, e)
			}
		}
		for s := range texts() {
			if got, rest, e := pack.TakeText(pack.Text(s) + tail); got != s || rest != tail || e != api.OK {
				t.Errorf("%d bytes and %q came back as %d bytes, %q, error %d", len(s), tail, len(got), rest, e)
			}
		}
	}
}

// In sorted order a string comes right before those that it is a prefix of, or before another such one.
func TestNoEncodingIsAPrefix(t *testing.T) {
	var l []string
	for n := range 40000 {
		l = append(l, put(t, n))
	}
	for _, n := range edges() {
		if n >= 40000 {
			l = append(l, put(t, n))
		}
	}
	slices.Sort(l)
	for i := 1; i < len(l); i++ {
		if strings.HasPrefix(l[i], l[i-1]) {
			t.Errorf("%q is a prefix of %q", l[i-1], l[i])
		}
	}
}

// P1, R4: whatever is taken, it ends, and the same call has the same results.
func TestTakingAnything(t *testing.T) {
	bytes := "\x00\x01\x02\x7f\x80\x81\xff"
	for n := range 7 * 7 * 7 * 7 * 7 {
		s := ""
		for m := n; m > 0; m /= 7 {
			s += bytes[m%7 : m%7+1]
		}
		n1, r1, e1 := pack.Take(s)
		n2, r2, e2 := pack.Take(s)
		a1, b1, f1 := pack.TakeText(s)
		a2, b2, f2 := pack.TakeText(s)
		if n1 != n2 || r1 != r2 || e1 != e2 || a1 != a2 || b1 != b2 || f1 != f2 {
			t.Fatalf("two calls with %q differ", s)
		}
		if e1 == api.OK && put(t, n1)+r1 != s {
			t.Errorf("Take(%q) = %d, %q: not what it was given", s, n1, r1)
		}
		if f1 == api.OK && pack.Text(a1)+b1 != s {
			t.Errorf("TakeText(%q) = %q, %q: not what it was given", s, a1, b1)
		}
	}
}
