package frame_test

import (
	"encoding/binary"
	"hash/crc32"
	"math"
	"slices"
	"strings"
	"testing"

	"stratigraph/api"
	"stratigraph/frame"
)

// frames are bodies with their frames, written out by hand.
var frames = []struct {
	body, s string
}{
	{"", "\x00\x51\x53\x7d\x52"},
	{"a", "\x01a\xc4\xff\x6e\x71"},
	{"hi", "\x02hi\x67\x5f\xf7\x2b"},
	{"\x00\x80\xff", "\x03\x00\x80\xff\x56\x6b\xfb\x7c"},
}

// tails are what may follow a frame.
var tails = []string{"", "\x00", "\x01", "\x7f", "\x80", "\xff", "z", "\x00\x51\x53\x7d\x52", "\x51\x53\x7d\x52", "any text"}

// lengthText returns the encoding of a number, as the library of Go writes it.
func lengthText(n uint64) string {
	return string(binary.AppendUvarint(nil, n))
}

// summed returns s with its checksum after it, as the library of Go computes it.
func summed(s string) string {
	sum := crc32.Checksum([]byte(s), crc32.MakeTable(crc32.Castagnoli))
	return string(binary.LittleEndian.AppendUint32([]byte(s), sum))
}

// framed returns what the frame of body is, even if body is too long for one.
func framed(body string) string {
	return summed(lengthText(uint64(len(body))) + body)
}

// mixed returns n bytes of all kinds, always the same.
func mixed(n int) string {
	b := make([]byte, n)
	for i := range b {
		b[i] = byte(i*i*37 + i>>8 + n)
	}
	return string(b)
}

// bodies are strings of lengths that their own encodings have from one to three bytes for.
func bodies() []string {
	l := []string{"\x00", "\x00\x00\x00\x00", "\xff", "\x80", "\x80\x00", "é世", "\xed\xa0\x80", "123456789", framed(""), framed("ab") + framed(""), summed("abc")}
	for _, n := range []int{0, 1, 2, 3, 4, 5, 16, 63, 64, 126, 127, 128, 129, 255, 256, 300, 1<<14 - 1, 1 << 14, 1<<14 + 1, 1 << 16} {
		l = append(l, mixed(n), strings.Repeat("\x00", n), strings.Repeat("\x80", n))
	}
	return l
}

// shortBodies are those of bodies that every byte of their frames can be tried for.
func shortBodies() []string {
	return slices.DeleteFunc(bodies(), func(body string) bool { return len(body) > 300 })
}

// changed returns s with the bits of mask inverted in its byte i.
func changed(s string, i int, mask byte) string {
	return s[:i] + string([]byte{s[i] ^ mask}) + s[i+1:]
}

// brief is s as a test tells it.
func brief(s string) string {
	if len(s) > 40 {
		return s[:40] + ".."
	}
	return s
}

func wantTake(t *testing.T, s, body, rest string) {
	t.Helper()
	if b, r, e := frame.Take(s); b != body || r != rest || e != api.OK {
		t.Errorf("Take(%q) of %d bytes = %q of %d, %q of %d, %d; want %d and %d bytes, 0", brief(s), len(s), brief(b), len(b), brief(r), len(r), e, len(body), len(rest))
	}
}

func wantTakeError(t *testing.T, s string, want api.Errno) {
	t.Helper()
	if b, r, e := frame.Take(s); b != "" || r != "" || e != want {
		t.Errorf("Take(%q) of %d bytes = %q, %q, %d; want two empty strings, %d", brief(s), len(s), brief(b), brief(r), e, want)
	}
}

func wantAll(t *testing.T, s string, want []string, size int) {
	t.Helper()
	if l, n := frame.All(s); !slices.Equal(l, want) || n != size {
		t.Errorf("All(%q) of %d bytes = %d bodies, %d; want %d, %d", brief(s), len(s), len(l), n, len(want), size)
	}
}

// takeByDefinition reads a frame in the words of the chapter.
func takeByDefinition(s string) (string, string, api.Errno) {
	digits := strings.IndexFunc(s, func(r rune) bool { return r < 128 }) + 1
	if digits == 0 {
		return "", "", api.ErrShort
	}
	length, _ := binary.Uvarint([]byte(s[:digits]))
	if s[:digits] != lengthText(length) || length > api.MaxBody {
		return "", "", api.ErrForm
	}
	end := digits + int(length) + 4
	if len(s) < end {
		return "", "", api.ErrShort
	}
	if summed(s[:end-4]) != s[:end] {
		return "", "", api.ErrSum
	}
	return s[digits : end-4], s[end:], api.OK
}

func wantTakeByDefinition(t *testing.T, s string) {
	t.Helper()
	body, rest, err := takeByDefinition(s)
	if err == api.OK {
		wantTake(t, s, body, rest)
	} else {
		wantTakeError(t, s, err)
	}
}

// P3.1

func wantWrap(t *testing.T, body, want string) {
	t.Helper()
	if s, e := frame.Wrap(body); s != want || e != api.OK {
		t.Errorf("Wrap(%q) of %d bytes = %q of %d, %d; want %q of %d, 0", brief(body), len(body), brief(s), len(s), e, brief(want), len(want))
	}
}

func TestWrap(t *testing.T) {
	for _, c := range frames {
		wantWrap(t, c.body, c.s)
	}
	for _, body := range bodies() {
		wantWrap(t, body, framed(body))
	}
}

func TestWrapOfTheLongestBodies(t *testing.T) {
	for n := api.MaxBody - 2; n <= api.MaxBody; n++ {
		wantWrap(t, mixed(n), framed(mixed(n)))
	}
	zeros := strings.Repeat("\x00", 1<<20)
	wantWrap(t, zeros, summed("\x80\x80\x40"+zeros))
}

func TestWrapOfTooLongBodies(t *testing.T) {
	for _, n := range []int{1<<20 + 1, 1<<20 + 2, 1<<21 - 1, 1 << 21, 1<<24 + 5} {
		if s, e := frame.Wrap(strings.Repeat("x", n)); s != "" || e != api.ErrLong {
			t.Errorf("Wrap of %d bytes = %q, %d; want an empty string, ErrLong", n, brief(s), e)
		}
	}
}

// P3.2

func TestTake(t *testing.T) {
	for _, tail := range tails {
		for _, c := range frames {
			wantTake(t, c.s+tail, c.body, tail)
		}
		for _, body := range bodies() {
			wantTake(t, framed(body)+tail, body, tail)
		}
	}
}

func TestTakeOfTheLongestBodies(t *testing.T) {
	for n := api.MaxBody - 2; n <= api.MaxBody; n++ {
		wantTake(t, framed(mixed(n)), mixed(n), "")
		wantTake(t, framed(mixed(n))+"\x80", mixed(n), "\x80")
	}
}

func TestTakeOfLengthsThatEndTooEarly(t *testing.T) {
	for _, digit := range []string{"\x80", "\x81", "\xac", "\xff"} {
		for n := range 30 {
			wantTakeError(t, strings.Repeat(digit, n), api.ErrShort)
		}
		wantTakeError(t, strings.Repeat(digit, 100000), api.ErrShort)
	}
}

// A wrong length is refused even where all that follows would fit it.
func TestTakeOfLengthsThatAreNoEncodings(t *testing.T) {
	for _, s := range []string{
		"\x80\x00",
		"\x81\x00",
		"\x81\x80\x00",
		"\x80\x80\x80\x00",
		"\xff\x80\x80\x80\x80\x80\x80\x80\x00",
		"\x80\x80\x80\x80\x80\x80\x80\x80\x80\x01",
		"\x81\x80\x80\x80\x80\x80\x80\x80\x80\x02",
		"\xff\xff\xff\xff\xff\xff\xff\xff\xff\x01",
		strings.Repeat("\x80", 40) + "\x01",
		strings.Repeat("\x80", 100000) + "\x01",
	} {
		wantTakeError(t, s, api.ErrForm)
		wantTakeError(t, s+"a", api.ErrForm)
		wantTakeError(t, summed(s), api.ErrForm)
		wantTakeError(t, summed(s+"a"), api.ErrForm)
		wantTakeError(t, summed(s+"a")+framed("a"), api.ErrForm)
	}
}

func TestTakeOfTooGreatLengths(t *testing.T) {
	for _, n := range []int{1<<20 + 1, 1<<20 + 2, 1<<20 + 4, 1<<21 - 1, 1 << 21, 1<<31 - 1, 1 << 31, 1 << 32, 1<<32 + 1, api.MaxNum, 1 << 62} {
		wantTooGreat(t, n)
	}
	// Added to the bytes around a body, these wrap round.
	for n := math.MaxInt - 20; n < math.MaxInt; n++ {
		wantTooGreat(t, n)
	}
	wantTooGreat(t, math.MaxInt)
}

// ErrForm is named before ErrShort, and before ErrSum.
func wantTooGreat(t *testing.T, n int) {
	t.Helper()
	length := lengthText(uint64(n))
	for _, s := range []string{length, length + "a", summed(length), summed(length + "a"), length + strings.Repeat("\x00", 1<<20+20)} {
		wantTakeError(t, s, api.ErrForm)
	}
}

// Whole frames, but for bodies that no frame has.
func TestTakeOfTooLongBodies(t *testing.T) {
	for _, n := range []int{1<<20 + 1, 1<<20 + 2, 1 << 21} {
		s := framed(mixed(n))
		wantTakeError(t, s, api.ErrForm)
		wantTakeError(t, s+framed(""), api.ErrForm)
		wantTakeError(t, s[:len(s)-1], api.ErrForm)
		wantTakeError(t, changed(s, len(s)-1, 1), api.ErrForm)
	}
}

func TestTakeOfFramesThatEndTooEarly(t *testing.T) {
	for _, body := range shortBodies() {
		s := framed(body)
		for i := range len(s) {
			wantTakeError(t, s[:i], api.ErrShort)
		}
	}
	for _, n := range []int{1 << 14, api.MaxBody - 1, api.MaxBody} {
		s := framed(mixed(n))
		for _, i := range []int{0, 1, 2, 3, 4, 5, n / 2, n - 1, n, n + 1, n + 2, n + 3, n + 4, len(s) - 2, len(s) - 1} {
			wantTakeError(t, s[:i], api.ErrShort)
		}
	}
}

// What is left of a frame is short even where its body, or the beginning of its checksum, is wrong too.
func TestTakeTellsShortBeforeSum(t *testing.T) {
	for _, body := range []string{"a", "123456789", mixed(300)} {
		s := framed(body)
		start := len(s) - 4 - len(body)
		for i := start; i < len(s)-1; i++ {
			for end := i + 1; end < len(s); end++ {
				wantTakeError(t, changed(s, i, 1)[:end], api.ErrShort)
			}
		}
	}
	wantTakeError(t, "\x00\x00\x00\x00", api.ErrShort)
	wantTakeError(t, "\x02\xff\xff\xff\xff\xff", api.ErrShort)
	wantTakeError(t, summed("\x05abcd"), api.ErrShort)
}

func TestTakeOfChangedBytes(t *testing.T) {
	for _, body := range shortBodies() {
		s := framed(body)
		for i := len(s) - 4 - len(body); i < len(s); i++ {
			for bit := range 8 {
				wantTakeError(t, changed(s, i, 1<<bit), api.ErrSum)
				wantTakeError(t, changed(s, i, 1<<bit)+framed(body), api.ErrSum)
			}
			wantTakeError(t, changed(s, i, 0xff), api.ErrSum)
		}
	}
}

func TestTakeOfEveryChangedByte(t *testing.T) {
	for _, body := range []string{"", "a", "123456789", mixed(130)} {
		s := framed(body)
		for i := len(s) - 4 - len(body); i < len(s); i++ {
			for mask := 1; mask < 256; mask++ {
				wantTakeError(t, changed(s, i, byte(mask)), api.ErrSum)
			}
		}
	}
}

// A changed length is another length, no encoding, or digits that do not end: what it is, the definition says.
func TestTakeOfChangedLengths(t *testing.T) {
	for _, body := range shortBodies() {
		s := framed(body)
		for i := range len(s) - 4 - len(body) {
			for mask := 1; mask < 256; mask++ {
				wantTakeByDefinition(t, changed(s, i, byte(mask)))
				wantTakeByDefinition(t, changed(s, i, byte(mask))+s+s)
			}
		}
	}
}

func TestTakeOfChangesInLongBodies(t *testing.T) {
	s := framed(mixed(api.MaxBody))
	for _, i := range []int{3, 4, 1000, 1 << 19, len(s) - 6, len(s) - 5, len(s) - 4, len(s) - 3, len(s) - 2, len(s) - 1} {
		wantTakeError(t, changed(s, i, 0x10), api.ErrSum)
		wantTakeError(t, changed(s, i, 0x10)+"z", api.ErrSum)
	}
}

// The checksum is that of the length and the body, in this order of bytes, and of nothing else.
func TestTakeOfOtherChecksums(t *testing.T) {
	for _, s := range []string{
		"\x02hi" + summed("hi")[2:],
		"\x02hi" + summed("\x02")[1:],
		"\x02hi" + summed("\x03hi")[3:],
		"\x02hi" + summed("hi\x02")[3:],
		"\x02hi\x2b\xf7\x5f\x67",
		"\x02hi\x98\xa0\x08\xd4",
		"\x02hi\x00\x00\x00\x00",
		"\x02ih\x67\x5f\xf7\x2b",
		"\x00\x00\x00\x00\x00",
		"\x00\x52\x7d\x53\x51",
	} {
		wantTakeError(t, s, api.ErrSum)
	}
}

// P3.3

func TestAll(t *testing.T) {
	wantAll(t, "", nil, 0)
	for _, c := range frames {
		wantAll(t, c.s, []string{c.body}, len(c.s))
		for _, d := range frames {
			wantAll(t, c.s+d.s, []string{c.body, d.body}, len(c.s+d.s))
			wantAll(t, d.s+c.s+d.s, []string{d.body, c.body, d.body}, len(d.s+c.s+d.s))
		}
	}
	s := ""
	for _, body := range bodies() {
		s += framed(body)
	}
	wantAll(t, s, bodies(), len(s))
}

// ends are what no frame begins, one or more for each error of Take.
func ends() []string {
	whole := framed("abc")
	return []string{
		whole[:1], whole[:len(whole)/2], whole[:len(whole)-1], "\x80", strings.Repeat("\xff", 1000),
		"\x80\x00", summed("\x80\x00"), lengthText(1<<20 + 1), framed(mixed(1<<20 + 1)), lengthText(math.MaxInt) + "abc",
		changed(whole, 1, 1), changed(whole, len(whole)-1, 0x80), "\x00\x00\x00\x00\x00",
	}
}

// The frames after the first error are not read, even if they are whole.
func TestAllEndsAtTheFirstError(t *testing.T) {
	l := []string{"a", "", "123456789", "", "a"}
	for _, end := range ends() {
		for _, after := range []string{"", framed("after") + framed("that")} {
			s := ""
			for i, body := range l {
				wantAll(t, s+end+after, l[:i], len(s))
				s += framed(body)
			}
			wantAll(t, s+end+after, l, len(s))
		}
	}
}

func TestAllOfLongBodies(t *testing.T) {
	l := []string{mixed(api.MaxBody), "", mixed(api.MaxBody - 1), mixed(api.MaxBody)}
	s := ""
	for _, body := range l {
		s += framed(body)
	}
	wantAll(t, s, l, len(s))
	wantAll(t, s+framed(mixed(api.MaxBody+1))+framed("a"), l, len(s))
	wantAll(t, s[:len(s)-1], l[:3], len(s)-api.MaxBody-7)
}

func TestAllOfManyFrames(t *testing.T) {
	const n = 200000
	s := strings.Repeat(framed("")+framed("a"), n)
	l, size := frame.All(s + strings.Repeat("\x80", 1<<20))
	if len(l) != 2*n || size != len(s) {
		t.Fatalf("All of %d frames of %d bytes = %d bodies, %d", 2*n, len(s), len(l), size)
	}
	for i, body := range l {
		if body != "a"[:i%2] {
			t.Fatalf("body %d is %q", i, brief(body))
		}
	}
}

// P3.4

// wrapped returns the frames of l, one after the other, and where each of them ends.
func wrapped(t *testing.T, l []string) (string, []int) {
	t.Helper()
	s := ""
	var at []int
	for _, body := range l {
		f, e := frame.Wrap(body)
		if e != api.OK {
			t.Fatalf("Wrap of %d bytes: error %d", len(body), e)
		}
		s += f
		at = append(at, len(s))
	}
	return s, at
}

func TestFramesComeBackInOrder(t *testing.T) {
	l := append(bodies(), mixed(api.MaxBody), "", mixed(api.MaxBody))
	s, _ := wrapped(t, l)
	wantAll(t, s, l, len(s))
	for i, body := range l {
		b, rest, e := frame.Take(s)
		if b != body || e != api.OK {
			t.Fatalf("body %d came back as %d bytes, error %d; want %d bytes", i, len(b), e, len(body))
		}
		s = rest
	}
	if s != "" {
		t.Errorf("%d bytes are left", len(s))
	}
}

func TestFramesCutAtEveryPlace(t *testing.T) {
	for _, l := range [][]string{
		{""},
		{"a"},
		{"", ""},
		{"", "", "", ""},
		{"a", "", "bc", mixed(130), ""},
		{"\x00", "\x00\x00", "\x80", "\x80\x80"},
		{framed(""), framed("a") + framed("b"), framed(framed("abc"))},
		{mixed(127), mixed(128), strings.Repeat("\x00", 300), mixed(5)},
	} {
		s, at := wrapped(t, l)
		for cut := range len(s) + 1 {
			whole, size := 0, 0
			for whole < len(at) && at[whole] <= cut {
				size = at[whole]
				whole++
			}
			wantAll(t, s[:cut], l[:whole], size)
		}
	}
}

func TestLongFramesCutNearTheirEnds(t *testing.T) {
	l := []string{mixed(api.MaxBody), mixed(1 << 14), mixed(api.MaxBody)}
	s, at := wrapped(t, l)
	for i, end := range at {
		before := 0
		if i > 0 {
			before = at[i-1]
		}
		for d := 1; d <= 8; d++ {
			wantAll(t, s[:end-d], l[:i], before)
		}
		wantAll(t, s[:end], l[:i+1], end)
	}
}

// P1, R4: whatever is read, it ends as the definition says, and the same call has the same results. The bytes are those of which the frame of nothing consists, and some digits.
func TestReadingAnything(t *testing.T) {
	const letters = "\x00\x51\x53\x7d\x52\x01\x80\xff"
	for length := range 7 {
		b := make([]byte, length)
		for n := range 1 << (3 * length) {
			for i := range b {
				b[i] = letters[n>>(3*i)&7]
			}
			s := string(b)
			wantTakeByDefinition(t, s)
			wantAllByDefinition(t, s)
			wantAllByDefinition(t, s)
		}
	}
}

func wantAllByDefinition(t *testing.T, s string) {
	t.Helper()
	var l []string
	rest := s
	body, after, err := takeByDefinition(rest)
	for err == api.OK {
		l, rest = append(l, body), after
		body, after, err = takeByDefinition(rest)
	}
	wantAll(t, s, l, len(s)-len(rest))
}

func TestCallsDoNotShareTheirResults(t *testing.T) {
	s := framed("a") + framed("b")
	l, _ := frame.All(s)
	l[0], l[1] = "x", "y"
	wantAll(t, s, []string{"a", "b"}, len(s))
}
