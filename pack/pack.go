// Package pack is layer 1: an encoding of numbers, flags and strings as bytes, in which every value has exactly one encoding. See shared/doc/01-pack.md.
package pack

import (
	"stratigraph/api"
)

const (
	digitBits = 7
	base      = 1 << digitBits
	// 9 digits of 7 bits hold every number up to 2^63 - 1 and none above it.
	maxDigits = 9
)

// Put returns the encoding of the number n.
func Put(n int) (string, api.Errno) {
	return Numbers(n)
}

// Numbers returns the encodings of all numbers of l, one after the other.
func Numbers(l ...int) (string, api.Errno) {
	b := make([]byte, 0, len(l))
	for _, n := range l {
		if n < 0 {
			return "", api.ErrArg
		}
		b = appendNumber(b, n)
	}
	return string(b), api.OK
}

func appendNumber(b []byte, n int) []byte {
	for n >= base {
		b = append(b, byte(n%base+base))
		n /= base
	}
	return append(b, byte(n))
}

// Take returns the number at the beginning of s, and the rest of s.
func Take(s string) (int, string, api.Errno) {
	last := lastDigit(s)
	if last < 0 {
		return 0, "", api.ErrShort
	}
	// A zero digit at the end is refused too, so more than maxDigits digits are too great or no encoding at all.
	if last >= maxDigits || last > 0 && s[last] == 0 {
		return 0, "", api.ErrForm
	}
	return number(s[:last+1]), s[last+1:], api.OK
}

// lastDigit returns the index of the first byte of s below base, or -1.
func lastDigit(s string) int {
	for i := range len(s) {
		if s[i] < base {
			return i
		}
	}
	return -1
}

func number(digits string) int {
	n := 0
	for i := len(digits) - 1; i >= 0; i-- {
		n = n*base + int(digits[i]%base)
	}
	return n
}

// Flag returns the encoding of a flag.
func Flag(on bool) string {
	if on {
		return "\x01"
	}
	return "\x00"
}

// TakeFlag returns the flag at the beginning of s, and the rest of s.
func TakeFlag(s string) (bool, string, api.Errno) {
	if s == "" {
		return false, "", api.ErrShort
	}
	if s[0] > 1 {
		return false, "", api.ErrForm
	}
	return s[0] == 1, s[1:], api.OK
}

// Text returns the encoding of the string s.
func Text(s string) string {
	return string(appendNumber(nil, len(s))) + s
}

// TakeText returns the string at the beginning of s, and the rest of s.
func TakeText(s string) (string, string, api.Errno) {
	n, rest, err := Take(s)
	if err != api.OK {
		return "", "", err
	}
	if n > len(rest) {
		return "", "", api.ErrShort
	}
	return rest[:n], rest[n:], api.OK
}
