package check_test

import (
	"hash/crc32"
	"strings"
	"testing"

	"stratigraph/api"
	"stratigraph/check"
)

// sums are strings with their checksums, as they are known from elsewhere.
func sums() map[string]uint32 {
	rising, falling := "", ""
	for i := range 32 {
		rising += string([]byte{byte(i)})
		falling += string([]byte{byte(31 - i)})
	}
	return map[string]uint32{
		"":                         0,
		"a":                        0xC1D04330,
		"abc":                      0x364B3FB7,
		"123456789":                0xE3069283,
		strings.Repeat("\x00", 32): 0x8A9136AA,
		strings.Repeat("\xff", 32): 0x62A8AB43,
		rising:                     0x46DD794E,
		falling:                    0x113FDB5C,
	}
}

// bodies are strings of many lengths and of all bytes, valid UTF-8 or not.
func bodies() []string {
	l := []string{"\x00", "\x00\x00\x00\x00", "\xff", "\xff\xff\xff\xff", "\x80", "é世", "\xed\xa0\x80", "a\x00", "\x00a", "123456789", "any text"}
	for n := range 40 {
		l = append(l, scattered(n, n))
	}
	for _, n := range []int{63, 64, 65, 255, 256, 257, 1000, 4096} {
		l = append(l, scattered(n, n), strings.Repeat("\x00", n), strings.Repeat("\xff", n))
	}
	return l
}

// scattered returns n bytes without any visible order, always the same for one seed.
func scattered(n, seed int) string {
	b := make([]byte, n)
	x := uint32(seed)*2654435761 + 12345
	for i := range b {
		x = x*1664525 + 1013904223
		b[i] = byte(x >> 24)
	}
	return string(b)
}

// bySteps computes the checksum bit by bit, in the words of the chapter.
func bySteps(s string) uint32 {
	var register uint32 = 0xFFFFFFFF
	for i := range len(s) {
		register = register&^0xFF | (register^uint32(s[i]))&0xFF
		for range 8 {
			out := register % 2
			register /= 2
			if out == 1 {
				register ^= 0x82F63B78
			}
		}
	}
	return 0xFFFFFFFF - register
}

// sealed returns s with the four bytes of its checksum, least significant first.
func sealed(s string) string {
	sum := bySteps(s)
	return s + string([]byte{byte(sum % 256), byte(sum / 256 % 256), byte(sum / 65536 % 256), byte(sum / 16777216)})
}

// changed returns s with the bits of mask inverted from place i on.
func changed(s string, i int, mask ...byte) string {
	b := []byte(s)
	for j, m := range mask {
		b[i+j] ^= m
	}
	return string(b)
}

func wantOpen(t *testing.T, s, body string) {
	t.Helper()
	if got, e := check.Open(s); got != body || e != api.OK {
		t.Errorf("Open(%q) = %q, %d; want %q, 0", s, got, e, body)
	}
}

func wantOpenError(t *testing.T, s string, want api.Errno) {
	t.Helper()
	if got, e := check.Open(s); got != "" || e != want {
		t.Errorf("Open(%q) = %q, %d; want an empty string, %d", s, got, e, want)
	}
}

// P2.1

func TestOf(t *testing.T) {
	for s, sum := range sums() {
		if got := check.Of(s); got != sum {
			t.Errorf("Of(%q) = %08X; want %08X", s, got, sum)
		}
	}
}

func TestOfIsTheDefinition(t *testing.T) {
	l := bodies()
	for a := range 256 {
		l = append(l, string([]byte{byte(a)}))
		for b := range 256 {
			l = append(l, string([]byte{byte(a), byte(b)}))
		}
	}
	for _, s := range l {
		if got, want := check.Of(s), bySteps(s); got != want {
			t.Errorf("Of(%q) = %08X; want %08X", s, got, want)
		}
	}
}

func TestOfManyBytes(t *testing.T) {
	table := crc32.MakeTable(crc32.Castagnoli)
	for _, n := range []int{1<<16 - 1, 1 << 16, api.MaxBody, api.MaxBody + 1, 3 << 20} {
		s := scattered(n, n)
		if got, want := check.Of(s), crc32.Checksum([]byte(s), table); got != want {
			t.Errorf("Of %d bytes = %08X; want %08X", n, got, want)
		}
	}
}

func TestSeal(t *testing.T) {
	for s, want := range map[string]string{
		"":          "\x00\x00\x00\x00",
		"a":         "a\x30\x43\xd0\xc1",
		"123456789": "123456789\x83\x92\x06\xe3",
	} {
		if got := check.Seal(s); got != want {
			t.Errorf("Seal(%q) = %q; want %q", s, got, want)
		}
	}
	for _, s := range bodies() {
		if got, want := check.Seal(s), sealed(s); got != want {
			t.Errorf("Seal(%q) = %q; want %q", s, got, want)
		}
	}
}

func TestOpen(t *testing.T) {
	wantOpen(t, "\x00\x00\x00\x00", "")
	wantOpen(t, "a\x30\x43\xd0\xc1", "a")
	wantOpen(t, "123456789\x83\x92\x06\xe3", "123456789")
	for _, s := range bodies() {
		wantOpen(t, sealed(s), s)
	}
}

// Fewer than four bytes are short even where they are the beginning or the end of something sealed.
func TestOpenOfFewerThanFourBytes(t *testing.T) {
	for _, s := range []string{"", "a", "ab", "abc", "\x00", "\x00\x00", "\x00\x00\x00", "\xff\xff\xff", "世", "\x83\x92\x06", "\x92\x06\xe3"} {
		wantOpenError(t, s, api.ErrShort)
	}
}

// Of four bytes, only the checksum of nothing is sealed.
func TestOpenOfFourBytes(t *testing.T) {
	for i := range 32 {
		wantOpenError(t, changed("\x00\x00\x00\x00", i/8, 1<<(i%8)), api.ErrSum)
	}
	for _, s := range []string{"abcd", "\xff\xff\xff\xff", "\x83\x92\x06\xe3", "\x00\x00\x00\x01", "\x01\x00\x00\x00"} {
		wantOpenError(t, s, api.ErrSum)
	}
}

func TestOpenOfWhatIsNotSealed(t *testing.T) {
	for _, s := range []string{
		"123456789",
		"123456789\xe3\x06\x92\x83",
		"\x83\x92\x06\xe3123456789",
		"123456789\x7c\x6d\xf9\x1c",
		"12345678\x83\x92\x06\xe3",
		"1234567890\x83\x92\x06\xe3",
		"123456789\x00\x00\x00\x00",
		"213456789\x83\x92\x06\xe3",
		"a\x00\x00\x00\x00",
		"\x00\x00\x00\x00\x00",
	} {
		wantOpenError(t, s, api.ErrSum)
	}
}

// What is cut at either end, or has a byte too many there, is sealed only where the definition says so.
func TestOpenOfCutAndLongerStrings(t *testing.T) {
	for _, body := range bodies() {
		s := sealed(body)
		if len(s) > 100 {
			continue
		}
		for i := range len(s) {
			wantOpenByDefinition(t, s[i:])
			wantOpenByDefinition(t, s[:i])
		}
		for _, b := range []string{"\x00", "\x01", "\x80", "\xff", "z"} {
			wantOpenByDefinition(t, s+b)
			wantOpenByDefinition(t, b+s)
		}
	}
}

func wantOpenByDefinition(t *testing.T, s string) {
	t.Helper()
	if len(s) < 4 {
		wantOpenError(t, s, api.ErrShort)
	} else if body := s[:len(s)-4]; sealed(body) == s {
		wantOpen(t, s, body)
	} else {
		wantOpenError(t, s, api.ErrSum)
	}
}

// P2.2

func TestOpenOfSeal(t *testing.T) {
	for _, s := range append(bodies(), "", scattered(api.MaxBody, 1), check.Seal("abc"), check.Seal(check.Seal(""))) {
		if got, e := check.Open(check.Seal(s)); got != s || e != api.OK {
			t.Errorf("%d bytes came back as %d, error %d", len(s), len(got), e)
		}
	}
}

func TestOneChangedByte(t *testing.T) {
	for _, body := range []string{"", "a", "\x00\x00\x00\x00", "123456789", scattered(300, 7)} {
		s := check.Seal(body)
		for i := range len(s) {
			for mask := 1; mask < 256; mask++ {
				wantOpenError(t, changed(s, i, byte(mask)), api.ErrSum)
			}
		}
	}
}

// In every four bytes next to one another, each pair of them is changed in every way.
func TestTwoChangedBytes(t *testing.T) {
	for _, body := range []string{"", "a", "12345"} {
		s := check.Seal(body)
		for i := range len(s) {
			for j := i + 1; j < i+4 && j < len(s); j++ {
				for mask := range 255 * 255 {
					wantOpenError(t, changed(changed(s, i, byte(mask/255+1)), j, byte(mask%255+1)), api.ErrSum)
				}
			}
		}
	}
}

func TestFourChangedBytes(t *testing.T) {
	for _, body := range []string{"", "a", "ab", "abc", "abcd", "123456789", scattered(100, 3)} {
		s := check.Seal(body)
		for i := range len(s) - 3 {
			for seed := range 500 {
				mask := scattered(4, seed)
				for part := 1; part < 16; part++ {
					if m := partOf(mask, part); m != [4]byte{} {
						wantOpenError(t, changed(s, i, m[:]...), api.ErrSum)
					}
				}
			}
		}
	}
}

// partOf returns those of the four bytes of mask whose bits are set in part, and 0 for the others.
func partOf(mask string, part int) [4]byte {
	var m [4]byte
	for i := range m {
		if part>>i&1 == 1 {
			m[i] = mask[i]
		}
	}
	return m
}

// There are too many changes of four bytes to try them all. But changes combine by exclusive or, in the string as in its residue: if no bit's change is undone by those of other bits, none of all the changes goes unseen.
func TestNoChangeWithinFourBytesIsUndone(t *testing.T) {
	for _, body := range []string{"", "a", "abc", "123456789", scattered(200, 5)} {
		s := check.Seal(body)
		for i := range len(s) - 3 {
			var basis [32]uint32
			for bit := range 32 {
				if !extends(&basis, residue(changed(s, i+bit/8, 1<<(bit%8)))^residue(s)) {
					t.Errorf("%q: from byte %d on, bit %d undoes others", s, i, bit)
				}
			}
		}
	}
}

// residue returns what the checksum at the end of s differs by from that of the bytes before it: 0 where s is sealed.
func residue(s string) uint32 {
	n := len(s) - 4
	return check.Of(s[:n]) ^ (uint32(s[n]) | uint32(s[n+1])<<8 | uint32(s[n+2])<<16 | uint32(s[n+3])<<24)
}

// extends adds x to the basis, unless some of its elements, combined by exclusive or, are x.
func extends(basis *[32]uint32, x uint32) bool {
	for bit := 31; bit >= 0; bit-- {
		if x>>bit&1 == 0 {
			continue
		}
		if basis[bit] == 0 {
			basis[bit] = x
			return true
		}
		x ^= basis[bit]
	}
	return false
}

// P1, R4: whatever is opened, it ends, and the same call has the same results.
func TestOpeningAnything(t *testing.T) {
	for n := range 2000 {
		s := scattered(n%20, n)
		b1, e1 := check.Open(s)
		b2, e2 := check.Open(s)
		if b1 != b2 || e1 != e2 || check.Of(s) != check.Of(s) || check.Seal(s) != check.Seal(s) {
			t.Fatalf("two calls with %q differ", s)
		}
		wantOpenByDefinition(t, s)
	}
}
