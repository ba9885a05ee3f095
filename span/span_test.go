package span_test

import (
	"fmt"
	"slices"
	"strings"
	"testing"
	"unicode/utf8"

	"stratigraph/api"
	"stratigraph/span"
)

// topKey is the greatest length of a key, written out.
const topKey = 16

// badKeys are strings that are no keys; ahead of another letter or behind one they are none either.
var badKeys = []string{
	" ", "\x00", "\t", "\n", "\r", "\x1f", "\x7f", "\u0080", "\u0085", "\u009f", "a b", " a", "a ", "a\n", "\x7fa", "a\u0080a",
	"\xff", "\x80", "\xc3", "\xef\xbf", "\xc0\x80", "\xe0\x80\xaf", "\xed\xa0\x80", "\xf0\x9f\x98", "\xf4\x90\x80\x80", "a\xff", "\xffa", "\ufffd\xbd",
	strings.Repeat("a", topKey+1), strings.Repeat("a", topKey+2), strings.Repeat("\u00e9", topKey/2) + "a", strings.Repeat("\U0001f600", 5), strings.Repeat("a", 1<<12),
}

// goodKeys are keys at the ends of what is allowed, in order.
var goodKeys = []string{
	"!", "!!", "%", "a", strings.Repeat("a", topKey-1), strings.Repeat("a", topKey), "ab", "b", "e\u0301", "~", "~~", "\u00a0", "\u00e9", strings.Repeat("\u00e9", topKey/2),
	"\u4e16\u754c", "\ue000", "\ufffd", "\ufffd!", "\uffff", "\U00010000", "\U0001f600", strings.Repeat("\U0001f600", topKey/4), "\U0010ffff", "\U0010ffff\U0010ffff",
}

// alike are strings that have the same letters, each list of which only the first is a key.
var alike = [][]string{
	{"\ufffd", "\xff", "\x80", "\xc3", "\xc0"},
	{"\ufffd\ufffd", "\xff\xff", "\ufffd\xff", "\xff\ufffd", "\xef\xbf", "\xc0\x80", "\xe2\x80"},
	{"a\ufffd", "a\xff", "a\x80"},
	{"\ufffdb", "\xffb", "\xc3b"},
	{"a\ufffdb", "a\xffb", "a\xbfb"},
	{"\ufffd\ufffd\ufffd", "\xed\xa0\x80", "\xff\ufffd\xff", "\ufffd\xff\ufffd", "\xe0\x80\xaf"},
}

// from is the span from lo, below hi.
func from(lo, hi string) api.Span {
	return api.Span{Lo: lo, Hi: hi}
}

// chain is the list of the spans that meet in these bounds, one behind another.
func chain(bounds ...string) []api.Span {
	var l []api.Span
	for i, hi := range bounds[1:] {
		l = append(l, from(bounds[i], hi))
	}
	return l
}

// numbered is a key that follows those of the lesser numbers; there is one between those of two even ones.
func numbered(n int) string {
	return fmt.Sprintf("k%04d", n)
}

// ofLength is a list of n spans that covers all keys, with the keys of the even numbers from 2 on as bounds.
func ofLength(n int) []api.Span {
	bounds := []string{""}
	for i := 1; i < n; i++ {
		bounds = append(bounds, numbered(2*i))
	}
	return chain(append(bounds, "")...)
}

// badSpans are spans that are not valid: for their bounds alone, or for their order.
func badSpans() []api.Span {
	l := []api.Span{from("d", "b"), from("b", "b"), from("b", "a"), from("b!", "b"), from("ab", "aa"), from("ab", "a"), from("\u00a0", "~"), from("\U00010000", "\uffff"), from("\U00010000", "\ufffd"), from("\U0010ffff", "!")}
	for _, k := range badKeys {
		l = append(l, from(k, ""), from("", k), from("!", k), from(k, "\U0010ffff\U0010ffff"), from(k, k), from(k, k+"b"), from(k+"b", k))
	}
	for _, k := range goodKeys {
		l = append(l, from(k, k))
	}
	for _, same := range alike {
		for _, k := range same[1:] {
			l = append(l, from(k, ""), from("", k), from(same[0], k), from(k, same[0]), from(k, same[0]+"a"))
		}
	}
	return l
}

// beside are keys just before and just behind a key of one ASCII letter or two, and that one.
func beside(k string) (before, behind []string) {
	last := k[len(k)-1]
	lower := k[:len(k)-1] + string([]byte{last - 1})
	before = []string{lower, lower + "~", lower + strings.Repeat("~", topKey-len(lower)), lower + strings.Repeat("\U0010ffff", (topKey-len(lower))/4)}
	if len(k) > 1 {
		before = append(before, k[:len(k)-1])
	}
	behind = []string{k + "!", k + "!!", k + "\u00a0", k + "\U0010ffff", k[:len(k)-1] + string([]byte{last + 1})}
	return before, behind
}

// What the chapter defines, in its words. Keys have no broken bytes, so that the order of their bytes is that of their letters.

func validKey(k string) bool {
	if len(k) < 1 || len(k) > topKey || !utf8.ValidString(k) {
		return false
	}
	for _, letter := range k {
		if letter < 33 || letter >= 127 && letter <= 159 {
			return false
		}
	}
	return true
}

func validBound(k string) bool {
	return k == "" || validKey(k)
}

func valid(s api.Span) bool {
	return validBound(s.Lo) && validBound(s.Hi) && (s.Lo < s.Hi || s.Hi == "")
}

// contains asks a valid span and a key.
func contains(s api.Span, k string) bool {
	precedes := k < s.Lo
	return !precedes && (k < s.Hi || s.Hi == "")
}

func has(s api.Span, k string) bool {
	return valid(s) && validKey(k) && contains(s, k)
}

func cut(s api.Span, at string) (api.Span, api.Span, api.Errno) {
	if !valid(s) {
		return api.Span{}, api.Span{}, api.ErrArg
	}
	if !validKey(at) {
		return api.Span{}, api.Span{}, api.ErrArg
	}
	if at > s.Lo && contains(s, at) {
		return from(s.Lo, at), from(at, s.Hi), api.OK
	}
	return api.Span{}, api.Span{}, api.ErrRange
}

func joined(a, b api.Span) (api.Span, api.Errno) {
	if !valid(a) {
		return api.Span{}, api.ErrArg
	}
	if !valid(b) {
		return api.Span{}, api.ErrArg
	}
	if a.Hi != "" && a.Hi == b.Lo {
		return from(a.Lo, b.Hi), api.OK
	}
	return api.Span{}, api.ErrRange
}

func overlap(a, b api.Span) bool {
	if !valid(a) || !valid(b) {
		return false
	}
	return (a.Lo < b.Hi || b.Hi == "") && (b.Lo < a.Hi || a.Hi == "")
}

func coversAll(l []api.Span) bool {
	for i, s := range l {
		if !valid(s) {
			return false
		}
		if i > 0 && (s.Lo == "" || s.Lo != l[i-1].Hi) {
			return false
		}
	}
	return len(l) >= 1 && l[0].Lo == "" && l[len(l)-1].Hi == ""
}

// What is wanted of each call.

func brief(l []api.Span) string {
	if len(l) > 8 {
		return fmt.Sprintf("%d spans, %.40q .. %.40q", len(l), l[:3], l[len(l)-3:])
	}
	return fmt.Sprintf("%.40q", l)
}

func wantRight(t *testing.T, s api.Span, want bool) {
	t.Helper()
	if span.Right(s) != want {
		t.Errorf("Right(%.40q) = %v", s, !want)
	}
}

func wantHas(t *testing.T, s api.Span, k string, want bool) {
	t.Helper()
	if span.Has(s, k) != want {
		t.Errorf("Has(%.40q, %.40q) = %v", s, k, !want)
	}
}

func wantCut(t *testing.T, s api.Span, at string, wantA, wantB api.Span, wantErr api.Errno) {
	t.Helper()
	a, b, err := span.Cut(s, at)
	if a != wantA || b != wantB || err != wantErr {
		t.Errorf("Cut(%.40q, %.40q) = %.40q, %.40q, %d, not %.40q, %.40q, %d", s, at, a, b, err, wantA, wantB, wantErr)
	}
}

func wantNoCut(t *testing.T, s api.Span, at string, wantErr api.Errno) {
	t.Helper()
	wantCut(t, s, at, api.Span{}, api.Span{}, wantErr)
}

func wantJoin(t *testing.T, a, b, want api.Span, wantErr api.Errno) {
	t.Helper()
	if s, err := span.Join(a, b); s != want || err != wantErr {
		t.Errorf("Join(%.40q, %.40q) = %.40q, %d, not %.40q, %d", a, b, s, err, want, wantErr)
	}
}

func wantNoJoin(t *testing.T, a, b api.Span, wantErr api.Errno) {
	t.Helper()
	wantJoin(t, a, b, api.Span{}, wantErr)
}

// wantMeet asks each way round.
func wantMeet(t *testing.T, a, b api.Span, want bool) {
	t.Helper()
	if span.Meet(a, b) != want {
		t.Errorf("Meet(%.40q, %.40q) = %v", a, b, !want)
	}
	if span.Meet(b, a) != want {
		t.Errorf("Meet(%.40q, %.40q) = %v", b, a, !want)
	}
}

// wantWhole lends l with others behind its end, which would make another list of it, and looks at all of them afterwards.
func wantWhole(t *testing.T, l []api.Span, want bool) {
	t.Helper()
	all := slices.Concat(l, []api.Span{{}, {Lo: "m"}, {Lo: "\xff", Hi: "a"}})
	before := slices.Clone(all)
	if span.Whole(all[:len(l)]) != want {
		t.Errorf("Whole(%s) = %v", brief(l), !want)
	}
	if !slices.Equal(all, before) {
		t.Errorf("Whole(%s) has changed what it was lent", brief(l))
	}
}

// P9.1: Right

func TestRightOfEmptyBounds(t *testing.T) {
	wantRight(t, api.Span{}, true)
	for _, k := range goodKeys {
		wantRight(t, from(k, ""), true)
		wantRight(t, from("", k), true)
	}
	for _, k := range badKeys {
		wantRight(t, from(k, ""), false)
		wantRight(t, from("", k), false)
	}
}

func TestRightOfEachTwoKeys(t *testing.T) {
	for i, lo := range goodKeys {
		for j, hi := range goodKeys {
			wantRight(t, from(lo, hi), i < j)
		}
	}
}

func TestRightOfKeysThatAreNeighbours(t *testing.T) {
	for _, k := range []string{"b", "m", "bm", "zz"} {
		before, behind := beside(k)
		for _, lo := range before {
			wantRight(t, from(lo, k), true)
			wantRight(t, from(k, lo), false)
		}
		for _, hi := range behind {
			wantRight(t, from(k, hi), true)
			wantRight(t, from(hi, k), false)
		}
		wantRight(t, from(k, k), false)
	}
}

func TestRightOfOneKeyAndNone(t *testing.T) {
	for _, bad := range badKeys {
		for _, k := range goodKeys {
			wantRight(t, from(k, bad), false)
			wantRight(t, from(bad, k), false)
		}
		for _, other := range badKeys {
			wantRight(t, from(bad, other), false)
		}
	}
	for _, s := range badSpans() {
		wantRight(t, s, false)
	}
}

// P9.1: Has

func TestHasOfTheChapter(t *testing.T) {
	s := from("b", "d")
	for k, want := range map[string]bool{"a": false, "b": true, "c": true, "d": false} {
		wantHas(t, s, k, want)
	}
}

// What lies between the bounds is told by keys at each of them, just before it and just behind it.
func TestHasAtAndBesideEachBound(t *testing.T) {
	for _, lo := range []string{"b", "bm", "bmm"} {
		for _, hi := range []string{"x", "xm"} {
			for _, s := range []api.Span{{}, from(lo, ""), from("", hi), from(lo, hi)} {
				before, behind := beside(lo)
				wantHas(t, s, lo, true)
				for _, k := range before {
					wantHas(t, s, k, s.Lo == "")
				}
				for _, k := range append(behind, "m", "mmmm") {
					wantHas(t, s, k, true)
				}
				before, behind = beside(hi)
				wantHas(t, s, hi, s.Hi == "")
				for _, k := range before {
					wantHas(t, s, k, true)
				}
				for _, k := range behind {
					wantHas(t, s, k, s.Hi == "")
				}
			}
		}
	}
}

func TestHasOfNeighbours(t *testing.T) {
	s := from("b", "b!")
	for _, k := range []string{"a", "a~", "!", "b!", "b!!", "b\"", "c", "bb"} {
		wantHas(t, s, k, false)
	}
	wantHas(t, s, "b", true)
	full := strings.Repeat("b", topKey)
	for _, k := range []string{full[1:], full[1:] + "a", full[1:] + "c", full + "b", full + "!"} {
		wantHas(t, from(full, full[1:]+"c"), k, false)
	}
	wantHas(t, from(full, full[1:]+"c"), full, true)
}

func TestHasOfEachKeyBetweenEachTwo(t *testing.T) {
	for n, k := range goodKeys {
		wantHas(t, api.Span{}, k, true)
		for i, lo := range goodKeys {
			wantHas(t, from(lo, ""), k, i <= n)
			wantHas(t, from("", lo), k, n < i)
			for j, hi := range goodKeys {
				wantHas(t, from(lo, hi), k, i <= n && n < j)
			}
		}
	}
}

// No span has anything that is no key, wherever it would lie.
func TestHasOfWhatIsNoKey(t *testing.T) {
	for _, s := range []api.Span{{}, from("!", ""), from("a", ""), from("", "b"), from("a", "b"), from("!", "\U0010ffff"), from("~", "\U0010ffff\U0010ffff")} {
		wantRight(t, s, true)
		wantHas(t, s, "", false)
		for _, k := range badKeys {
			wantHas(t, s, k, false)
			wantHas(t, s, s.Lo+k+" ", false)
		}
	}
}

func TestHasOfSpansThatAreNotValid(t *testing.T) {
	for _, s := range badSpans() {
		for _, k := range append([]string{"", s.Lo, s.Hi, "c", "a!"}, goodKeys...) {
			wantHas(t, s, k, false)
		}
	}
}

// The first key is the exclamation mark alone, so nothing lies below it.
func TestHasBelowTheFirstKey(t *testing.T) {
	wantRight(t, from("", "!"), true)
	for _, k := range slices.Concat([]string{""}, goodKeys, badKeys) {
		wantHas(t, from("", "!"), k, false)
	}
	wantHas(t, from("", "!!"), "!", true)
}

// P9.1: Meet

func TestMeetOfWhatOverlaps(t *testing.T) {
	for _, x := range []struct{ a, b api.Span }{
		{from("b", "d"), from("b", "d")},
		{from("b", "d"), from("c", "e")},
		{from("b", "d"), from("a", "b!")},
		{from("b", "d"), from("a", "c")},
		{from("b", "d"), from("b", "c")},
		{from("b", "d"), from("c", "d")},
		{from("b", "z"), from("c", "d")},
		{from("b", "d"), from("a", "e")},
		{from("b", "d"), from("c~~~~~~~~~~~~~~~", "e")},
		{from("b", "d"), from("", "")},
		{from("b", "d"), from("", "c")},
		{from("b", "d"), from("", "b!")},
		{from("b", "d"), from("", "d")},
		{from("b", "d"), from("", "e")},
		{from("b", "d"), from("a", "")},
		{from("b", "d"), from("b", "")},
		{from("b", "d"), from("c", "")},
		{from("b", ""), from("", "c")},
		{from("b", ""), from("a", "")},
		{from("b", ""), from("b", "")},
		{from("b", ""), from("", "")},
		{from("", "d"), from("", "b")},
		{from("", "d"), from("", "d")},
		{from("", "d"), from("", "")},
		{from("", ""), from("", "")},
	} {
		wantMeet(t, x.a, x.b, true)
	}
}

func TestMeetOfWhatDoesNotOverlap(t *testing.T) {
	for _, x := range []struct{ a, b api.Span }{
		{from("b", "d"), from("d", "e")},
		{from("b", "d"), from("d", "")},
		{from("b", "d"), from("d!", "e")},
		{from("b", "d"), from("d!", "")},
		{from("b", "d"), from("a", "b")},
		{from("b", "d"), from("", "b")},
		{from("b", "d"), from("a", "a!")},
		{from("b", "d"), from("", "a~")},
		{from("b", "d"), from("", "!")},
		{from("b", ""), from("", "b")},
		{from("b", ""), from("a", "b")},
		{from("b", ""), from("", "a")},
		{from("", "d"), from("d", "")},
		{from("", "d"), from("d", "e")},
		{from("", "d"), from("e", "")},
		{from("!", ""), from("", "!")},
		{from("b", "\uffff"), from("\U00010000", "")},
	} {
		wantMeet(t, x.a, x.b, false)
	}
}

// Overlap is told by the bounds alone: no key lies below the first one, but the spans with room there overlap all the same.
func TestMeetBelowTheFirstKey(t *testing.T) {
	below := from("", "!")
	for _, s := range []api.Span{{}, below, from("", "!!"), from("", "b")} {
		wantMeet(t, below, s, true)
	}
	for _, s := range []api.Span{from("!", ""), from("!", "!!"), from("b", "c")} {
		wantMeet(t, below, s, false)
	}
}

func TestMeetOfSpansThatAreNotValid(t *testing.T) {
	for _, bad := range badSpans() {
		for _, s := range []api.Span{{}, from("b", "d"), from("", "d"), from("b", ""), from("!", "\U0010ffff"), bad, from("\xff", "a")} {
			wantMeet(t, bad, s, false)
		}
	}
}

// P9.1: Whole

func TestWholeOfFewSpans(t *testing.T) {
	wantWhole(t, nil, false)
	wantWhole(t, []api.Span{}, false)
	wantWhole(t, []api.Span{{}}, true)
	for _, k := range goodKeys {
		wantWhole(t, []api.Span{from(k, "")}, false)
		wantWhole(t, []api.Span{from("", k)}, false)
		wantWhole(t, []api.Span{from("", k), from(k, "")}, true)
		wantWhole(t, []api.Span{from(k, ""), from("", k)}, false)
		wantWhole(t, []api.Span{from("", k), from(k, ""), {}}, false)
		wantWhole(t, []api.Span{{}, from("", k), from(k, "")}, false)
		wantWhole(t, []api.Span{from("", k), from("", k), from(k, "")}, false)
		wantWhole(t, []api.Span{from("", k), from(k, ""), from(k, "")}, false)
	}
	if span.Whole(nil) || span.Whole([]api.Span{}) {
		t.Error("no spans cover all keys")
	}
}

func TestWholeOfEachLength(t *testing.T) {
	for _, n := range []int{1, 2, 3, 7, 8, 64, 65, 1000} {
		wantWhole(t, ofLength(n), true)
		wantWhole(t, ofLength(n)[1:], false)
		wantWhole(t, ofLength(n)[:n-1], false)
	}
	wantWhole(t, chain(slices.Concat([]string{""}, goodKeys, []string{""})...), true)
}

// A list of many spans with one gap, one overlap, two in the other order, or one that is there twice or not at all.
func TestWholeOfListsWithOneFault(t *testing.T) {
	for _, n := range []int{2, 3, 4, 8, 65} {
		for i := range n - 1 {
			// The spans i and i+1 meet in the key of the number 2*i+2.
			for _, other := range []string{numbered(2*i + 1), numbered(2*i + 3), numbered(2*i+2) + "!", numbered(2*i+1) + "~", numbered(2 * i), numbered(2*i + 4)} {
				l := ofLength(n)
				l[i].Hi = other
				wantWhole(t, l, false)
				l = ofLength(n)
				l[i+1].Lo = other
				wantWhole(t, l, false)
				if other != l[i].Lo && other != l[i+1].Hi {
					// Moved on both sides, the bound is as good as before.
					l[i].Hi = other
					wantWhole(t, l, true)
				}
			}
			l := ofLength(n)
			l[i], l[i+1] = l[i+1], l[i]
			wantWhole(t, l, false)
			wantWhole(t, slices.Insert(ofLength(n), i, l[i]), false)
			wantWhole(t, slices.Insert(ofLength(n), i+1, l[i]), false)
			wantWhole(t, slices.Delete(ofLength(n), i, i+1), false)
		}
		l := ofLength(n)
		slices.Reverse(l)
		wantWhole(t, l, false)
	}
}

func TestWholeWithABoundAtTheFrontOrAtTheEnd(t *testing.T) {
	for _, n := range []int{1, 2, 3, 64} {
		for _, k := range []string{"!", "a", "k", numbered(1)} {
			l := ofLength(n)
			l[0].Lo = k
			wantRight(t, l[0], true)
			wantWhole(t, l, false)
		}
		for _, k := range []string{numbered(2*n + 1), "l", "\ufffd", "\U0010ffff\U0010ffff"} {
			l := ofLength(n)
			l[n-1].Hi = k
			wantRight(t, l[n-1], true)
			wantWhole(t, l, false)
		}
	}
}

// What has no bound in the middle would begin anew or end early, on one side or on both.
func TestWholeWithAnEmptyBoundInTheMiddle(t *testing.T) {
	for _, n := range []int{2, 3, 4, 64} {
		for i := range n - 1 {
			l := ofLength(n)
			l[i].Hi = ""
			wantWhole(t, l, false)
			l[i+1].Lo = ""
			wantWhole(t, l, false)
			l = ofLength(n)
			l[i+1].Lo = ""
			wantWhole(t, l, false)
			wantWhole(t, slices.Insert(ofLength(n), i+1, api.Span{}), false)
		}
		wantWhole(t, slices.Concat(ofLength(n), ofLength(n)), false)
		wantWhole(t, make([]api.Span, n), false)
	}
}

func TestWholeWithOneSpanThatIsNotValid(t *testing.T) {
	for _, n := range []int{1, 2, 3, 5, 64} {
		for _, i := range []int{0, n / 2, n - 1} {
			for _, bad := range badSpans() {
				l := ofLength(n)
				l[i] = bad
				wantWhole(t, l, false)
				// The neighbours fit it, so that nothing else is wrong.
				if i > 0 {
					l[i-1].Hi = bad.Lo
				}
				if i < n-1 {
					l[i+1].Lo = bad.Hi
				}
				wantWhole(t, l, false)
			}
		}
	}
	// These bounds meet each other, but rise at no time or only at first.
	wantWhole(t, chain("", "b", "b", ""), false)
	wantWhole(t, chain("", "c", "b", ""), false)
	wantWhole(t, chain("", "c", "b", "d", ""), false)
	wantWhole(t, chain("", "b", "c", "a", ""), false)
	wantWhole(t, chain("", "b", "a b", "c", ""), false)
	wantWhole(t, chain("", "a b", ""), false)
	wantWhole(t, chain("", "\xff", ""), false)
	wantWhole(t, chain(" ", "b", ""), false)
	wantWhole(t, chain("", "b", " "), false)
}

// P9.2: Cut

func TestCutOfTheChapter(t *testing.T) {
	wantCut(t, from("b", "d"), "c", from("b", "c"), from("c", "d"), api.OK)
	wantNoCut(t, from("b", "d"), "b", api.ErrRange)
}

func TestCutWithin(t *testing.T) {
	for _, s := range []api.Span{{}, from("b", ""), from("", "d"), from("b", "d")} {
		for _, at := range []string{"b!", "b\u00a0", "bb", "c", "c!", "cc", strings.Repeat("c", topKey), "c~", "c\U0010ffff"} {
			wantCut(t, s, at, from(s.Lo, at), from(at, s.Hi), api.OK)
		}
	}
	for _, at := range goodKeys {
		wantCut(t, api.Span{}, at, from("", at), from(at, ""), api.OK)
	}
}

func TestCutAtTheBounds(t *testing.T) {
	for _, lo := range []string{"b", "!", "bm"} {
		for _, hi := range []string{"d", "\U0010ffff", "dm"} {
			for _, at := range []string{lo, hi} {
				wantNoCut(t, from(lo, hi), at, api.ErrRange)
			}
			wantNoCut(t, from(lo, ""), lo, api.ErrRange)
			wantNoCut(t, from("", hi), hi, api.ErrRange)
			wantCut(t, from("", hi), lo, from("", lo), from(lo, hi), api.OK)
			wantCut(t, from(lo, ""), hi, from(lo, hi), from(hi, ""), api.OK)
		}
	}
}

func TestCutBeforeAndBehind(t *testing.T) {
	for _, at := range []string{"!", "a", "a~", "a\U0010ffff", "aaaa"} {
		wantNoCut(t, from("b", "d"), at, api.ErrRange)
		wantNoCut(t, from("b", ""), at, api.ErrRange)
		wantCut(t, from("", "d"), at, from("", at), from(at, "d"), api.OK)
	}
	for _, at := range []string{"d!", "dd", "e", "\u00a0", "\U0010ffff"} {
		wantNoCut(t, from("b", "d"), at, api.ErrRange)
		wantNoCut(t, from("", "d"), at, api.ErrRange)
		wantCut(t, from("b", ""), at, from("b", at), from(at, ""), api.OK)
	}
	for _, at := range goodKeys {
		wantNoCut(t, from("", "!"), at, api.ErrRange)
	}
}

// Where one key follows another at once, there is no cut between them.
func TestCutOfNeighbours(t *testing.T) {
	full := strings.Repeat("b", topKey)
	for _, s := range []api.Span{from("b", "b!"), from("b", "b!"), from(full, full[1:]+"c"), from("!", "!!")} {
		wantRight(t, s, true)
		for _, at := range append([]string{s.Lo, s.Hi, s.Lo[1:] + "!", "c"}, goodKeys...) {
			wantNoCut(t, s, at, api.ErrRange)
		}
	}
}

func TestCutAtWhatIsNoKey(t *testing.T) {
	for _, s := range []api.Span{{}, from("a", ""), from("", "b"), from("a", "b"), from("!", "\U0010ffff"), from("b", "d")} {
		wantNoCut(t, s, "", api.ErrArg)
		for _, bad := range badKeys {
			for _, at := range []string{bad, s.Lo + bad, s.Hi + bad, bad + "b"} {
				wantNoCut(t, s, at, api.ErrArg)
			}
		}
	}
}

// Wherever the cut would be, a span that is not valid is told, and so is a string that is no key.
func TestTheOrderOfCutsErrors(t *testing.T) {
	for _, s := range badSpans() {
		for _, at := range slices.Concat([]string{"", s.Lo, s.Hi, "a", "b", "c", "d", "a!"}, goodKeys, badKeys) {
			wantNoCut(t, s, at, api.ErrArg)
		}
	}
	// Beside these bounds, no key would be right either.
	for _, s := range []api.Span{from("b", "d"), from("b", ""), from("", "d"), from("", "!")} {
		for _, at := range []string{"", " ", "a ", "a\xff", "b ", "b\x00", "d ", "d\x00", "e ", "e\xff", "\U0010ffff ", strings.Repeat("a", topKey+1), strings.Repeat("e", topKey+1)} {
			wantNoCut(t, s, at, api.ErrArg)
		}
	}
}

// P9.2: Join

func TestJoinOfWhatMeetsInOneKey(t *testing.T) {
	for n, k := range goodKeys {
		wantJoin(t, from("", k), from(k, ""), api.Span{}, api.OK)
		for _, lo := range goodKeys[:n] {
			wantJoin(t, from(lo, k), from(k, ""), from(lo, ""), api.OK)
			for _, hi := range goodKeys[n+1:] {
				wantJoin(t, from(lo, k), from(k, hi), from(lo, hi), api.OK)
				wantJoin(t, from("", k), from(k, hi), from("", hi), api.OK)
			}
		}
	}
}

func TestJoinOfWhatDoesNotMeetInOneKey(t *testing.T) {
	for _, x := range []struct{ a, b api.Span }{
		// They overlap.
		{from("b", "d"), from("c", "e")},
		{from("b", "d"), from("c~", "e")},
		{from("b", "d"), from("b", "d")},
		{from("b", "d"), from("b", "e")},
		{from("b", "z"), from("c", "d")},
		{from("c", "d"), from("b", "z")},
		{from("", "d"), from("c", "")},
		// They leave a gap.
		{from("b", "d"), from("e", "f")},
		{from("b", "d"), from("d!", "f")},
		{from("b", "d"), from("dd", "")},
		{from("", "d"), from("e", "")},
		{from("", "e"), from("e\u0301", "")},
		{from("", "e\u0301"), from("\u00e9", "")},
		{from("", "\u00e9"), from("e\u0301", "")},
		// They stand the wrong way round.
		{from("c", "d"), from("b", "c")},
		{from("c", ""), from("b", "c")},
		{from("c", ""), from("", "c")},
		{from("c", "d"), from("", "c")},
		{from("e", "f"), from("b", "d")},
	} {
		wantRight(t, x.a, true)
		wantRight(t, x.b, true)
		wantNoJoin(t, x.a, x.b, api.ErrRange)
	}
}

// An empty string at both places is no key in which they meet.
func TestJoinOfEmptyBounds(t *testing.T) {
	for _, lo := range []string{"", "!", "b", "\ufffd"} {
		for _, hi := range []string{"", "!", "c", "\uffff"} {
			wantNoJoin(t, from(lo, ""), from("", hi), api.ErrRange)
			wantNoJoin(t, from(lo, ""), from("b", ""), api.ErrRange)
			wantNoJoin(t, from(lo, "\U0010ffff"), from("", hi), api.ErrRange)
		}
	}
}

func TestTheOrderOfJoinsErrors(t *testing.T) {
	for _, bad := range badSpans() {
		for _, s := range []api.Span{{}, from("b", "d"), from("", "d"), from("b", ""), from("b", "\ufffd"), from("\ufffd", ""), from("d", "b"), from("\xff", "\xff")} {
			wantNoJoin(t, bad, s, api.ErrArg)
			wantNoJoin(t, s, bad, api.ErrArg)
		}
		// They would meet in one key, or in something like one.
		wantNoJoin(t, from("", bad.Lo), bad, api.ErrArg)
		wantNoJoin(t, bad, from(bad.Hi, ""), api.ErrArg)
		wantNoJoin(t, bad, bad, api.ErrArg)
		wantNoJoin(t, from("!", bad.Lo), bad, api.ErrArg)
		wantNoJoin(t, bad, from(bad.Hi, "\U0010ffff\U0010ffff"), api.ErrArg)
	}
}

// P9.1, P9.2

// Strings with the same letters compare as equal, but only one of each list is a key, and the others are nothing's bound and in nothing.
func TestStringsThatAreEqualLetterByLetter(t *testing.T) {
	for _, same := range alike {
		k := same[0]
		wantHas(t, from(k, ""), k, true)
		wantCut(t, from("!", ""), k, from("!", k), from(k, ""), api.OK)
		wantJoin(t, from("!", k), from(k, ""), from("!", ""), api.OK)
		wantWhole(t, chain("", k, ""), true)
		for _, other := range same[1:] {
			if slices.Compare([]rune(other), []rune(k)) != 0 || other == k {
				t.Fatalf("%q and %q are not alike", k, other)
			}
			wantRight(t, from(other, k+"!"), false)
			for _, s := range []api.Span{{}, from(k, ""), from(k, k+"!"), from("!", k), from("!", k+"!")} {
				wantHas(t, s, other, false)
				wantNoCut(t, s, other, api.ErrArg)
				wantMeet(t, s, from(other, ""), false)
				wantMeet(t, s, from("", other), false)
			}
			wantHas(t, from(other, ""), k, false)
			wantHas(t, from("", other), "!", false)
			wantNoCut(t, from(other, ""), k, api.ErrArg)
			for _, x := range []struct{ hi, lo string }{{k, other}, {other, k}, {other, other}} {
				wantNoJoin(t, from("!", x.hi), from(x.lo, ""), api.ErrArg)
				wantWhole(t, []api.Span{from("", x.hi), from(x.lo, "")}, false)
				wantWhole(t, []api.Span{from("", "!"), from("!", x.hi), from(x.lo, "\U0010ffff"), from("\U0010ffff", "")}, false)
			}
		}
	}
}

// fewBounds are bounds of both kinds, and strings that are none.
var fewBounds = []string{"", "!", "a", "a!", "aa", "b", "\u00a0", "\ufffd", "\U00010000", " ", "a b", "\xff", "\x7f", strings.Repeat("a", topKey), strings.Repeat("a", topKey+1)}

func eachSpan(bounds []string) []api.Span {
	var l []api.Span
	for _, lo := range bounds {
		for _, hi := range bounds {
			l = append(l, from(lo, hi))
		}
	}
	return l
}

func wantAllOfOneByDefinition(t *testing.T, s api.Span, k string) {
	t.Helper()
	wantRight(t, s, valid(s))
	wantHas(t, s, k, has(s, k))
	a, b, err := cut(s, k)
	wantCut(t, s, k, a, b, err)
}

func wantAllOfTwoByDefinition(t *testing.T, a, b api.Span) {
	t.Helper()
	wantMeet(t, a, b, overlap(a, b))
	s, err := joined(a, b)
	wantJoin(t, a, b, s, err)
}

func TestEachSpanByDefinition(t *testing.T) {
	all := slices.Concat([]string{""}, goodKeys, badKeys)
	for _, s := range eachSpan(all) {
		for _, k := range all {
			wantAllOfOneByDefinition(t, s, k)
		}
	}
}

func TestEachTwoSpansByDefinition(t *testing.T) {
	spans := eachSpan(fewBounds)
	for _, a := range spans {
		for _, b := range spans {
			wantAllOfTwoByDefinition(t, a, b)
		}
	}
}

// eachList calls f with all lists of at most n of these spans.
func eachList(spans []api.Span, n int, f func(l []api.Span)) {
	var with func(l []api.Span)
	with = func(l []api.Span) {
		f(l)
		if len(l) < n {
			for _, s := range spans {
				with(append(l, s))
			}
		}
	}
	with(make([]api.Span, 0, n))
}

func TestShortListsByDefinition(t *testing.T) {
	covering := 0
	check := func(l []api.Span) {
		want := coversAll(l)
		if want {
			covering++
		}
		wantWhole(t, l, want)
	}
	eachList(eachSpan([]string{"", "a", "b", "c", "\ufffd", "\xff", " "}), 3, check)
	eachList(eachSpan([]string{"", "a", "b", "c"}), 4, check)
	// Of each number of spans there is a list for each choice of the keys between them: 1 + 4 + 6, and 1 + 3 + 3 + 1.
	if covering != 19 {
		t.Errorf("%d lists cover all keys, not 19", covering)
	}
}

// dice throws the same numbers in each run.
type dice uint64

func (d *dice) below(n int) int {
	*d = *d*6364136223846793005 + 1442695040888963407
	return int(uint64(*d) >> 33 % uint64(n))
}

// word is a key, or, seldom, none.
func (d *dice) word() string {
	parts := []string{"!", "a", "b", "~", "\u00a0", "\u00e9", "\u4e16", "\ufffd", "\uffff", "\U00010000", "\U0010ffff"}
	if d.below(12) == 0 {
		parts = append(parts, " ", "\xff", "\xef", "\x7f", "\u0080", strings.Repeat("b", topKey), "", "")
	}
	k := ""
	for n := 1 + d.below(5); n > 0; n-- {
		k += parts[d.below(len(parts))]
	}
	return k
}

// keys are n different keys, in order.
func (d *dice) keys(n int) []string {
	var l []string
	for len(l) < n {
		if k := d.word(); validKey(k) {
			l = append(l, k)
			slices.Sort(l)
			l = slices.Compact(l)
		}
	}
	return l
}

// covering is a list of n spans that covers all keys.
func (d *dice) covering(n int) []api.Span {
	return chain(slices.Concat([]string{""}, d.keys(n-1), []string{""})...)
}

func TestMixedSpansByDefinition(t *testing.T) {
	d := dice(9)
	for range 30000 {
		x, y, z := d.word(), d.word(), d.word()
		if x > y && d.below(4) > 0 {
			x, y = y, x
		}
		s := from(x, y)
		for _, k := range []string{x, y, z, x + "!", y + "!", ""} {
			wantAllOfOneByDefinition(t, s, k)
			wantAllOfOneByDefinition(t, from(x, ""), k)
			wantAllOfOneByDefinition(t, from("", y), k)
		}
		for _, other := range []api.Span{from(y, z), from(z, x), from(y, ""), from("", x), from(z, ""), from("", z), from(x, z), from(z, y)} {
			wantAllOfTwoByDefinition(t, s, other)
			wantAllOfTwoByDefinition(t, other, s)
		}
	}
}

func TestMixedListsByDefinition(t *testing.T) {
	d := dice(91)
	for range 3000 {
		n := 1 + d.below(20)
		l := d.covering(n)
		wantWhole(t, l, true)
		i := d.below(n)
		switch d.below(5) {
		case 0:
			l[i].Lo = d.word()
		case 1:
			l[i].Hi = d.word()
		case 2:
			j := d.below(n)
			l[i], l[j] = l[j], l[i]
		case 3:
			l = slices.Delete(l, i, i+1)
		default:
			l = slices.Insert(l, i, from(d.word(), d.word()))
		}
		wantWhole(t, l, coversAll(l))
	}
}

// P9.3

// containing tells how many spans of l contain k.
func containing(l []api.Span, k string) int {
	n := 0
	for _, s := range l {
		if span.Has(s, k) {
			n++
		}
	}
	return n
}

func wantInJustOne(t *testing.T, l []api.Span, k string) {
	t.Helper()
	if n := containing(l, k); n != 1 {
		t.Errorf("%q is contained in %d spans of %s", k, n, brief(l))
	}
}

func TestEachKeyIsInJustOneSpan(t *testing.T) {
	lists := [][]api.Span{ofLength(1), ofLength(2), ofLength(3), ofLength(64), chain("", "!", ""), chain("", "!", "!!", ""), chain(slices.Concat([]string{""}, goodKeys, []string{""})...)}
	d := dice(92)
	for range 100 {
		lists = append(lists, d.covering(1+d.below(12)))
	}
	for _, l := range lists {
		wantWhole(t, l, true)
		for i, s := range l {
			if s.Lo != "" {
				wantHas(t, s, s.Lo, true)
				wantInJustOne(t, l, s.Lo)
				wantHas(t, l[i-1], s.Lo, false)
			}
			if k := s.Lo + "!"; validKey(k) {
				wantInJustOne(t, l, k)
			}
			for _, other := range l[i+1:] {
				wantMeet(t, s, other, false)
			}
		}
		for _, k := range append(d.keys(20), goodKeys...) {
			wantInJustOne(t, l, k)
		}
	}
}

// Of lists in the order of their spans, those cover all keys that have each key in just one span: with few bounds, the keys at them and between them tell.
func TestListsThatHaveEachKeyInJustOneSpan(t *testing.T) {
	keys := []string{"!", "a", "a!", "b", "bb", "c", "c!", "d", "\U0010ffff"}
	found := 0
	eachList(eachSpan([]string{"", "a", "b", "c"}), 4, func(l []api.Span) {
		other := func(k string) bool { return containing(l, k) != 1 }
		inOrder := slices.IsSortedFunc(l, func(a, b api.Span) int { return strings.Compare(a.Lo, b.Lo) })
		invalid := slices.ContainsFunc(l, func(s api.Span) bool { return !valid(s) })
		covers := inOrder && !invalid && !slices.ContainsFunc(keys, other)
		wantWhole(t, l, covers)
		if covers {
			found++
		}
	})
	if found != 8 {
		t.Errorf("%d lists cover all keys, not 8", found)
	}
}

func wantCutFollowedByJoin(t *testing.T, s api.Span, at string, keys []string) {
	t.Helper()
	a, b, err := span.Cut(s, at)
	if err != api.OK {
		t.Errorf("Cut(%.40q, %.40q): %d", s, at, err)
		return
	}
	wantRight(t, a, true)
	wantRight(t, b, true)
	wantMeet(t, a, b, false)
	wantMeet(t, a, s, true)
	wantMeet(t, b, s, true)
	wantJoin(t, a, b, s, api.OK)
	wantNoJoin(t, b, a, api.ErrRange)
	for _, k := range append(keys, at) {
		want := 0
		if span.Has(s, k) {
			want = 1
		}
		if n := containing([]api.Span{a, b}, k); n != want {
			t.Errorf("%.40q is contained in %d of %.40q and %.40q", k, n, a, b)
		}
	}
	wantHas(t, a, at, false)
	wantHas(t, b, at, true)
}

func TestACutFollowedByAJoin(t *testing.T) {
	for i, at := range goodKeys {
		los, his := append([]string{""}, goodKeys[:i]...), append([]string{""}, goodKeys[i+1:]...)
		for _, lo := range los {
			for _, hi := range his {
				wantCutFollowedByJoin(t, from(lo, hi), at, goodKeys)
			}
		}
	}
	d := dice(93)
	for range 2000 {
		l := d.keys(7)
		wantCutFollowedByJoin(t, from(l[1], l[5]), l[2+d.below(3)], l)
		wantCutFollowedByJoin(t, api.Span{}, l[d.below(7)], l)
	}
}

// From one span, cuts make a list that covers all keys, and joins make one span again.
func TestManyCutsAndJoins(t *testing.T) {
	d := dice(94)
	for range 200 {
		l := []api.Span{{}}
		for _, i := range []int{9, 3, 6, 1, 2, 0, 7, 8, 5, 4} {
			at := fmt.Sprintf("k%d", i)
			n := slices.IndexFunc(l, func(s api.Span) bool { return span.Has(s, at) })
			a, b, err := span.Cut(l[n], at)
			if err != api.OK {
				t.Fatalf("Cut(%q, %q): %d", l[n], at, err)
			}
			l = slices.Replace(l, n, n+1, a, b)
			wantWhole(t, l, true)
			wantNoCut(t, b, at, api.ErrRange)
			wantNoCut(t, a, at, api.ErrRange)
		}
		for len(l) > 1 {
			n := d.below(len(l) - 1)
			s, err := span.Join(l[n], l[n+1])
			if err != api.OK {
				t.Fatalf("Join(%q, %q): %d", l[n], l[n+1], err)
			}
			l = slices.Replace(l, n, n+2, s)
			wantWhole(t, l, true)
		}
		if l[0] != (api.Span{}) {
			t.Fatalf("the joins have made %q", l[0])
		}
	}
}

// P1, R4

func TestTheSameCallTwice(t *testing.T) {
	d := dice(95)
	for range 3000 {
		s, other, k := from(d.word(), d.word()), from(d.word(), d.word()), d.word()
		a, b, err := span.Cut(s, k)
		wantCut(t, s, k, a, b, err)
		joined, err := span.Join(s, other)
		wantJoin(t, s, other, joined, err)
		wantRight(t, s, span.Right(s))
		wantHas(t, s, k, span.Has(s, k))
		wantMeet(t, s, other, span.Meet(s, other))
		l := []api.Span{from("", s.Lo), s, from(s.Hi, "")}
		wantWhole(t, l, span.Whole(l))
	}
}
