package key_test

import (
	"fmt"
	"net/url"
	"slices"
	"strings"
	"testing"
	"unicode/utf8"

	"stratigraph/api"
	"stratigraph/key"
)

// forms are strings with their escaped forms, written out by hand.
var forms = []struct {
	s, w string
}{
	{"", "%"},
	{"a", "a"},
	{"a b", "a%20b"},
	{" ", "%20"},
	{"  ", "%20%20"},
	{"%", "%25"},
	{"%%", "%25%25"},
	{"%20", "%2520"},
	{"%25", "%2525"},
	{"a%", "a%25"},
	{"%a", "%25a"},
	{"\x00", "%00"},
	{"\t", "%09"},
	{"\n", "%0A"},
	{"\r\n", "%0D%0A"},
	{"\x1f", "%1F"},
	{"!", "!"},
	{"\"#$&'()*+,-./:;<=>?@[\\]^_`{|}~", "\"#$&'()*+,-./:;<=>?@[\\]^_`{|}~"},
	{"~\x7f", "~%7F"},
	{"\u0080", "%C2%80"},
	{"\u0085", "%C2%85"},
	{"\u009f", "%C2%9F"},
	{"\u00a0", "\u00a0"},
	{"\u00e9t\u00e9", "\u00e9t\u00e9"},
	{"\u2028", "\u2028"},
	{"\u3000", "\u3000"},
	{"\u4e16\u754c", "\u4e16\u754c"},
	{"\U0001f600", "\U0001f600"},
	{"\U0010ffff", "\U0010ffff"},
	{"\ufffd", "\ufffd"},
	{"\x80", "%80"},
	{"\xbf", "%BF"},
	{"\xff", "%FF"},
	{"\xc3", "%C3"},
	{"\xa9\xc3", "%A9%C3"},
	{"\xc3(", "%C3("},
	{"\xc3\u00e9", "%C3\u00e9"},
	{"\u00e9\xa9", "\u00e9%A9"},
	{"\xff\ufffd\xff", "%FF\ufffd%FF"},
	{"\ufffd\xff\ufffd", "\ufffd%FF\ufffd"},
	{"\xef\xbf", "%EF%BF"},
	{"\xef\xbf\ufffd", "%EF%BF\ufffd"},
	{"\ufffd\xbd", "\ufffd%BD"},
	{"\xe4\xb8", "%E4%B8"},
	{"\xe4\xb8\u4e16", "%E4%B8\u4e16"},
	{"\xf0\x9f\x98", "%F0%9F%98"},
	{"\xc0\x80", "%C0%80"},
	{"\xc1\x81", "%C1%81"},
	{"\xe0\x80\xaf", "%E0%80%AF"},
	{"\xed\xa0\x80", "%ED%A0%80"},
	{"\xed\xbf\xbf", "%ED%BF%BF"},
	{"\xf4\x90\x80\x80", "%F4%90%80%80"},
	{"\xf8\x88\x80\x80\x80", "%F8%88%80%80%80"},
	{"a\nb\xc3c\u0081d\ufffde%", "a%0Ab%C3c%C2%81d\ufffde%25"},
}

// parts are strings of one letter or two, and broken ones, of which others are put together.
var parts = []string{"a", "b", "~", " ", "%", "\n", "\x7f", "\u0080", "\u009f", "\u00a0", "\u00e9", "\u4e16", "\ufffd", "\uffff", "\U00010000", "\x80", "\xbd", "\xbf", "\xc3", "\xef", "\xef\xbf", "\xf0\x90", "\xff"}

// joined are all strings of at most n parts.
func joined(n int) []string {
	l := []string{""}
	for from := 0; n > 0; n-- {
		to := len(l)
		for _, s := range l[from:to] {
			for _, part := range parts {
				l = append(l, s+part)
			}
		}
		from = to
	}
	return l
}

// anyBytes are all strings of at most two bytes, and some of three and four.
func anyBytes() []string {
	l := []string{""}
	for a := range 256 {
		l = append(l, string([]byte{byte(a)}))
		for b := range 256 {
			l = append(l, string([]byte{byte(a), byte(b)}))
		}
	}
	const some = "a%\x00\x7f\x80\x8f\x90\x9f\xa0\xbd\xbf\xc2\xe0\xed\xef\xf0\xf4\xff"
	for n := range len(some) * len(some) * len(some) * len(some) {
		b := make([]byte, 4)
		for i := range b {
			b[i], n = some[n%len(some)], n/len(some)
		}
		l = append(l, string(b))
		if b[3] == some[0] {
			l = append(l, string(b[:3]))
		}
	}
	return l
}

// letter is one letter of a string, as the chapter defines it.
type letter struct {
	point rune
	text  string
	plain bool
}

// lettersByDefinition reads the letters of s one by one, not by a range over it.
func lettersByDefinition(s string) []letter {
	var l []letter
	for s != "" {
		point, size := utf8.DecodeRuneInString(s)
		broken := !utf8.ValidString(s[:size])
		control := point <= 32 || 127 <= point && point <= 159
		l = append(l, letter{point, s[:size], !broken && !control})
		s = s[size:]
	}
	return l
}

// points are the letters of s by their code points alone.
func points(s string) []rune {
	var l []rune
	for _, x := range lettersByDefinition(s) {
		l = append(l, x.point)
	}
	return l
}

func rightByDefinition(k string) bool {
	odd := slices.ContainsFunc(lettersByDefinition(k), func(x letter) bool { return !x.plain })
	return 1 <= len(k) && len(k) <= 16 && !odd
}

func showByDefinition(s string) string {
	if s == "" {
		return "%"
	}
	w := ""
	for _, x := range lettersByDefinition(s) {
		if x.plain && x.point != '%' {
			w += x.text
			continue
		}
		for _, c := range []byte(x.text) {
			w += fmt.Sprintf("%%%02X", c)
		}
	}
	return w
}

// readByDefinition reads w by the library of Go, which takes more words than the chapter, and more forms of one string.
func readByDefinition(w string) (string, api.Errno) {
	if w == "%" {
		return "", api.OK
	}
	s, err := url.PathUnescape(w)
	if err != nil || showByDefinition(s) != w {
		return "", api.ErrForm
	}
	return s, api.OK
}

func wantRight(t *testing.T, k string, want bool) {
	t.Helper()
	if got := key.Right(k); got != want {
		t.Errorf("Right(%q) of %d bytes = %v, want %v", k, len(k), got, want)
	}
}

func wantLetters(t *testing.T, k string, want []rune) {
	t.Helper()
	if got := key.Letters(k); !slices.Equal(got, want) {
		t.Errorf("Letters(%q) = %U, want %U", k, got, want)
	}
}

func wantCompare(t *testing.T, a, b string, want int) {
	t.Helper()
	if got := key.Compare(a, b); got != want {
		t.Errorf("Compare(%q, %q) = %d, want %d", a, b, got, want)
	}
	if got := key.Compare(b, a); got != -want {
		t.Errorf("Compare(%q, %q) = %d, want %d", b, a, got, -want)
	}
}

func wantShow(t *testing.T, s, want string) {
	t.Helper()
	if got := key.Show(s); got != want {
		t.Errorf("Show(%q) = %q, want %q", s, got, want)
	}
}

func wantRead(t *testing.T, w, want string, wantErr api.Errno) {
	t.Helper()
	if got, err := key.Read(w); got != want || err != wantErr {
		t.Errorf("Read(%q) = %q, %d; want %q, %d", w, got, err, want, wantErr)
	}
}

// P4.1

func TestRight(t *testing.T) {
	for _, k := range []string{"a", "%", "a%20b", "\"", "!", "~", "0", "\u00a0", "\u00e9t\u00e9", "\u4e16\u754c", "\ufffd", "\ufffd\ufffd", "\U0010ffff", "0123456789abcdef"} {
		wantRight(t, k, true)
	}
	for _, k := range []string{"", " ", "a b", " a", "a ", "\n", "a\n", "\x00", "\x1f", "\x7f", "a\x7f", "\u0080", "\u0085", "\u009f", "a\u009f", "\xff", "a\xff", "\xffa", "0123456789abcdefg"} {
		wantRight(t, k, false)
	}
}

// A key is measured in bytes, whatever its letters are.
func TestRightOfLongKeys(t *testing.T) {
	for n := range 40 {
		for _, part := range []string{"a", "\u00e9", "\u4e16", "\ufffd", "\U0001f600"} {
			for _, tail := range []string{"", "b", "\u00e8", "\u754c"} {
				k := strings.Repeat(part, n) + tail
				wantRight(t, k, 1 <= len(k) && len(k) <= 16)
			}
		}
	}
	wantRight(t, strings.Repeat("a", 1<<20), false)
	for at := range 16 {
		k := "0123456789abcdef"
		for _, odd := range []string{" ", "\x7f", "\x80", "\xff", "\xc3"} {
			wantRight(t, k[:at]+odd+k[at+1:], false)
		}
	}
}

func TestRightOfEveryLetter(t *testing.T) {
	for point := rune(0); point <= utf8.MaxRune; point++ {
		if !utf8.ValidRune(point) {
			continue
		}
		k := string(point)
		if want := point >= 33 && (point < 127 || point > 159); key.Right(k) != want || key.Right("a"+k) != want || key.Right(k+"a") != want {
			t.Errorf("Right of the letter %U, or of it beside an a, is not %v", point, want)
		}
	}
}

// The letter U+FFFD is plain where it is written out, and is not where it stands for a broken byte.
func TestRightOfBrokenBytes(t *testing.T) {
	for _, k := range []string{"\ufffd", "a\ufffdb", "\ufffd\ufffd\ufffd\ufffd\ufffda"} {
		wantRight(t, k, true)
	}
	for _, k := range []string{"\xef", "\xbf", "\xbd", "\xef\xbf", "\xbf\xbd", "\xbf\xef\xbd", "\ufffd\xbd", "\xef\ufffd", "\xef\xbf\ufffd", "\ufffd\xef\xbf", "\ufffd\xff", "\xff\ufffd", "\ufffd\xff\ufffd", "\xc3\u00e9", "\u00e9\xa9", "\xed\xa0\x80", "\xc0\x80", "\xc1\xa1", "\xf4\x90\x80\x80"} {
		wantRight(t, k, false)
	}
}

func TestRightOfAnyBytes(t *testing.T) {
	for _, k := range append(anyBytes(), joined(3)...) {
		wantRight(t, k, rightByDefinition(k))
	}
}

func TestLetters(t *testing.T) {
	wantLetters(t, "", nil)
	wantLetters(t, "a", []rune{'a'})
	wantLetters(t, "ab a", []rune{'a', 'b', ' ', 'a'})
	wantLetters(t, "a\u00e9\u4e16\U0001f600", []rune{'a', 0xe9, 0x4e16, 0x1f600})
	wantLetters(t, "\x00\x7f\u0080", []rune{0, 0x7f, 0x80})
	wantLetters(t, "\xff\ufffd", []rune{0xfffd, 0xfffd})
	wantLetters(t, "a\xffb", []rune{'a', 0xfffd, 'b'})
	wantLetters(t, "\xef\xbf", []rune{0xfffd, 0xfffd})
	wantLetters(t, "\xed\xa0\x80", []rune{0xfffd, 0xfffd, 0xfffd})
	wantLetters(t, "\xe4\xb8a", []rune{0xfffd, 0xfffd, 'a'})
	wantLetters(t, "\U0010ffff", []rune{0x10ffff})
}

func TestLettersOfAnyString(t *testing.T) {
	for _, k := range append(anyBytes(), joined(3)...) {
		wantLetters(t, k, points(k))
	}
	l := key.Letters(strings.Repeat("a\xff\u4e16", 1<<18))
	if !slices.Equal(l, slices.Repeat([]rune{'a', 0xfffd, 0x4e16}, 1<<18)) {
		t.Errorf("Letters of a long string: %d letters", len(l))
	}
}

func TestCompare(t *testing.T) {
	for _, c := range []struct {
		a, b string
		want int
	}{
		{"", "", 0},
		{"a", "a", 0},
		{"", "a", -1},
		{"", "\x00", -1},
		{"a", "ab", -1},
		{"a", "a\x00", -1},
		{"ab", "b", -1},
		{"abc", "abd", -1},
		{"abcz", "abd", -1},
		{"B", "a", -1},
		{"10", "9", -1},
		{"a", "b", -1},
		{"az", "b", -1},
		{"z", "\u00e9", -1},
		{"\u00e9", "\u4e16", -1},
		{"\u00e9z", "\u00e9\u00e9", -1},
		{"\uffff", "\U00010000", -1},
		{"\ufffd", "\U00010000", -1},
		{"\u00e9t\u00e9", "\u00e9t\u00e9", 0},
		{"\u00e9t", "\u00e9t\u00e9", -1},
	} {
		wantCompare(t, c.a, c.b, c.want)
	}
}

// A broken byte counts as the letter U+FFFD, whatever the byte is.
func TestCompareOfBrokenBytes(t *testing.T) {
	for _, c := range []struct {
		a, b string
		want int
	}{
		{"\xff", "\ufffd", 0},
		{"\x80", "\xff", 0},
		{"\xef\xbf", "\xff\xff", 0},
		{"\xef\xbf", "\ufffd\ufffd", 0},
		{"a\xffb", "a\ufffdb", 0},
		{"\xffa", "\ufffdb", -1},
		{"\xff", "\ufffda", -1},
		{"\ufffd", "\xffa", -1},
		{"\xed\xa0\x80", "\ufffd\ufffd\ufffd", 0},
		{"\ufffd", "\xef\xbf", -1},
		{"\xff", "\U00010000", -1},
		{"\xff", "\uffff", -1},
		{"\u00e9", "\x80", -1},
		{"\ufffc", "\x80", -1},
		{"\x80", "\ufffe", -1},
		{"\xff\xff", "\xff\uffff", -1},
	} {
		wantCompare(t, c.a, c.b, c.want)
	}
}

func TestCompareOfAnyStrings(t *testing.T) {
	l := joined(2)
	for i, a := range l {
		for _, b := range l[i:] {
			wantCompare(t, a, b, slices.Compare(points(a), points(b)))
		}
	}
}

func TestCompareOfLongStrings(t *testing.T) {
	long := strings.Repeat("a\xff\u4e16", 1<<18)
	wantCompare(t, long, long, 0)
	wantCompare(t, long, strings.Repeat("a\ufffd\u4e16", 1<<18), 0)
	wantCompare(t, long, long+"\x00", -1)
	wantCompare(t, long+"a", long+"b", -1)
	wantCompare(t, long+"zz", long+"\u00e9", -1)
	wantCompare(t, long, "b", -1)
}

// P4.2

func TestShowAndRead(t *testing.T) {
	for _, c := range forms {
		wantShow(t, c.s, c.w)
		wantRead(t, c.w, c.s, api.OK)
	}
}

func TestShowAndReadOfEveryLetter(t *testing.T) {
	for point := rune(0); point <= utf8.MaxRune; point++ {
		s := string(point)
		w := showByDefinition(s)
		wantShow(t, s, w)
		wantRead(t, w, s, api.OK)
	}
}

func TestShowAndReadOfAnyBytes(t *testing.T) {
	for _, s := range append(anyBytes(), joined(3)...) {
		w := showByDefinition(s)
		wantShow(t, s, w)
		wantRead(t, w, s, api.OK)
	}
}

func TestShowAndReadOfLongStrings(t *testing.T) {
	const n = 1 << 18
	for _, c := range forms[1:] {
		s, w := strings.Repeat(c.s+"|", n/len(c.s)), strings.Repeat(c.w+"|", n/len(c.s))
		if key.Show(s) != w {
			t.Errorf("Show of %q many times over isn't %q as many times", c.s, c.w)
		}
		if got, err := key.Read(w); got != s || err != api.OK {
			t.Errorf("Read of %q many times over isn't %q as many times: error %d", c.w, c.s, err)
		}
	}
	wantRead(t, strings.Repeat("%20", n)+"%2", "", api.ErrForm)
	wantRead(t, strings.Repeat("a", n)+" ", "", api.ErrForm)
}

func TestReadOfWrongWords(t *testing.T) {
	for _, w := range []string{
		"",
		// Letters that are plain, but escaped.
		"%41", "%21", "%7E", "%30", "a%62c", "%20%41", "%41%20", "%C2%A0", "%C3%A9", "a%C3%A9", "%E4%B8%96", "%EF%BF%BD", "%F0%9F%98%80", "%F4%8F%BF%BF",
		"%C3%A9%20", "%FF%EF%BF%BD", "%EF%EF%BF%BD", "%C3%C3%A9", "%C3%28",
		// A % that does not begin an escaped byte.
		"a%", "%a", "%%", "%%%", "a%b", "%25%", "%%25", "%20%", "%.20", "%2.", "% 20", "%2%20", "%%20", "% ", "%\u00e9",
		// Escaped bytes that are cut short.
		"%2", "%F", "a%2", "%20%2", "%C3%A", "%2 ", "%C3%8",
		// Hexadecimal digits other than 0 to 9 and A to F.
		"%ff", "%fF", "%Ff", "%0a", "%a0", "%c2%80", "%C2%8a", "%2G", "%G2", "%/0", "%0/", "%:0", "%0:", "%@0", "%0@", "%`0", "%0`", "%+2", "%-2", "%2_", "%_2", "%0x", "%0X", "% 2", "%2\u0660",
		"%\uff12\uff10", "%1\x00", "%\x00\x00", "%2\xff",
		// Letters that are not plain, but unescaped.
		"a b", " ", " a", "a ", "\n", "a\n", "\r", "\t", "\x00", "\x1f", "\x7f", "\u0080", "\u0085", "\u009f", "\xff", "\x80", "a\xc3", "\xc3(", "\xef\xbf", "\ufffd\xbd", "\xed\xa0\x80", "\xc0\x80", "\xf4\x90\x80\x80",
		// Letters that are half escaped.
		"%C3\xa9", "\xc3%A9", "%EF\xbf\xbd", "\xef%BF%BD", "%C2\x85", "\xc2%85", "%E4%B8\x96", "\xe4%B8%96",
	} {
		wantRead(t, w, "", api.ErrForm)
	}
}

// A wrong word stays wrong beside right ones.
func TestReadOfWrongWordsWithin(t *testing.T) {
	for _, w := range []string{"%41", "%E4%B8%96", "%ff", "%2g", " ", "\xff", "%a", "%zz", "%%", "\u0085"} {
		for _, beside := range []string{"a", "%20", "%25", "\u00e9", "%FF", "\ufffd", "."} {
			wantRead(t, w+beside, "", api.ErrForm)
			wantRead(t, beside+w, "", api.ErrForm)
			wantRead(t, beside+w+beside, "", api.ErrForm)
		}
	}
	for _, c := range forms {
		wantRead(t, c.w+"%", "", api.ErrForm)
		wantRead(t, c.w+"%4", "", api.ErrForm)
		wantRead(t, c.w+"%41", "", api.ErrForm)
		wantRead(t, c.w+" ", "", api.ErrForm)
		wantRead(t, c.w+"\n", "", api.ErrForm)
	}
}

func TestReadOfEveryEscapedByte(t *testing.T) {
	for c := range 256 {
		upper, lower := fmt.Sprintf("%%%02X", c), fmt.Sprintf("%%%02x", c)
		s := string([]byte{byte(c)})
		if 33 <= c && c < 127 && c != '%' {
			wantRead(t, upper, "", api.ErrForm)
		} else {
			wantRead(t, upper, s, api.OK)
		}
		if lower != upper {
			wantRead(t, lower, "", api.ErrForm)
		}
	}
}

func TestReadOfEveryPairOfDigits(t *testing.T) {
	for high := range 256 {
		for low := range 256 {
			w := "%" + string([]byte{byte(high), byte(low)})
			s, err := readByDefinition(w)
			wantRead(t, w, s, err)
		}
	}
}

// words calls f with all words of at most n letters.
func words(letters []string, n int, f func(w string)) {
	var grow func(w string, n int)
	grow = func(w string, n int) {
		f(w)
		if n == 0 {
			return
		}
		for _, x := range letters {
			grow(w+x, n-1)
		}
	}
	grow("", n)
}

func TestReadOfAllShortWords(t *testing.T) {
	for _, letters := range [][]string{
		{"%", "2", "5", "0", "A", "a", " "},
		{"%", "C", "3", "A", "9", "\xc3", "\xa9"},
		{"%EF", "%BF", "%BD", "\xef", "\xbf", "\xbd", "\ufffd"},
		{"%E4", "%B8", "%96", "\u4e16", "%25", "%", "%C2", "%85"},
	} {
		words(letters, 6, func(w string) {
			s, err := readByDefinition(w)
			wantRead(t, w, s, err)
		})
	}
}

// The words that Read takes are those that Show writes, and no others: each string of at most 3 bytes is shown, and each word of at most 3 of its bytes is read.
func TestReadTakesWhatShowWritesAlone(t *testing.T) {
	const bytes = "%0123456789ABCDEFabf \x00\x7f\x80\xc3\xa9\xff\xef\xbf\xbd"
	var letters []string
	for i := range len(bytes) {
		letters = append(letters, bytes[i:i+1])
	}
	shown := map[string]string{}
	for _, s := range anyBytes() {
		if len(s) <= 2 {
			shown[key.Show(s)] = s
		}
	}
	words(letters, 3, func(s string) { shown[key.Show(s)] = s })
	words(letters, 3, func(w string) {
		s, there := shown[w]
		if there {
			wantRead(t, w, s, api.OK)
		} else {
			wantRead(t, w, "", api.ErrForm)
		}
	})
}

// P4.3

// keys are many keys, in the order of their bytes, each once.
func keys() []string {
	l := slices.DeleteFunc(append(joined(3), anyBytes()...), func(k string) bool { return !key.Right(k) })
	for _, point := range []rune{'!', 'A', 'a', '~', 0xa0, 0x7ff, 0x800, 0xd7ff, 0xe000, 0xfffd, 0xffff, 0x10000, 0x10ffff} {
		for n := 1; n <= 16/utf8.RuneLen(point); n++ {
			l = append(l, strings.Repeat(string(point), n))
		}
	}
	slices.Sort(l)
	return slices.Compact(l)
}

func TestTheOrderOfKeysIsThatOfTheirBytes(t *testing.T) {
	l := keys()
	if len(l) < 1000 {
		t.Fatalf("only %d keys", len(l))
	}
	for i, a := range l {
		wantCompare(t, a, a, 0)
		for _, b := range l[:i] {
			if key.Compare(b, a) != -1 || key.Compare(a, b) != 1 {
				t.Errorf("%q and %q are not in the order of their bytes", b, a)
			}
		}
	}
	if !slices.IsSortedFunc(l, key.Compare) {
		t.Error("keys in the order of their bytes are not in the order of keys")
	}
}

func wantFormBack(t *testing.T, s string) {
	t.Helper()
	w := key.Show(s)
	wantRead(t, w, s, api.OK)
	if strings.ContainsAny(w, " \n\r\t\v\f\u0085") {
		t.Errorf("Show(%q) = %q has a space or a line end", s, w)
	}
	for _, x := range lettersByDefinition(w) {
		if !x.plain {
			t.Errorf("Show(%q) = %q has the letter %q", s, w, x.text)
		}
	}
}

func TestFormsComeBack(t *testing.T) {
	for _, s := range append(anyBytes(), joined(3)...) {
		wantFormBack(t, s)
		wantFormBack(t, key.Show(s))
	}
	for _, c := range forms {
		wantFormBack(t, c.s+"\r\n"+c.w)
	}
}

// P1, R4: the same call has the same results, and results are the caller's own.
func TestCallsDoNotShareTheirResults(t *testing.T) {
	for _, c := range forms {
		l := key.Letters(c.s)
		for i := range l {
			l[i] = 'x'
		}
		wantLetters(t, c.s, points(c.s))
		wantShow(t, c.s, c.w)
		wantRead(t, c.w, c.s, api.OK)
		wantRight(t, c.s, rightByDefinition(c.s))
	}
}
