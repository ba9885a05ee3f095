package index_test

import (
	"fmt"
	"math"
	"slices"
	"strings"
	"testing"
	"unicode/utf8"

	"stratigraph/api"
	"stratigraph/index"
)

// The greatest numbers that are allowed, written out.
const (
	topWall     = 1099511627776
	topTick     = 1048576
	topNode     = 255
	topVersions = 64
	topValue    = 16
	topKey      = 16
	topEntries  = 64
)

// badKeys are strings that are no keys; behind a key of four letters, which they then follow, they are none either.
var badKeys = []string{
	" ", "\x00", "\t", "\n", "\r", "\x1f", "\x7f", "\u0080", "\u0085", "\u009f", "a b", " a", "a ", "a\n", "\x7fa", "a\u0080a",
	"\xff", "\x80", "\xc3", "\xef\xbf", "\xc0\x80", "\xe0\x80\xaf", "\xed\xa0\x80", "\xf0\x9f\x98", "\xf4\x90\x80\x80", "a\xff", "\xffa", "\ufffd\xbd",
	strings.Repeat("a", topKey+1), strings.Repeat("a", topKey+2), strings.Repeat("\u00e9", topKey/2) + "a", strings.Repeat("\U0001f600", 5), strings.Repeat("a", 1<<12),
}

// goodKeys are keys at the ends of what is allowed, in order.
var goodKeys = []string{
	"!", "%", "a", strings.Repeat("a", topKey-1), strings.Repeat("a", topKey), "ab", "b", "~", "~~", "\u00a0", "\u00e9", strings.Repeat("\u00e9", topKey/2),
	"\u4e16\u754c", "\ue000", "\ufffd", "\ufffd!", "\uffff", "\U00010000", "\U0001f600", strings.Repeat("\U0001f600", topKey/4), "\U0010ffff", "\U0010ffff\U0010ffff",
}

var badStamps = []api.Stamp{
	{Wall: -1}, {Wall: topWall + 1}, {Wall: math.MinInt}, {Wall: math.MaxInt},
	{Tick: -1}, {Tick: topTick + 1}, {Node: -1}, {Node: topNode + 1},
	{Wall: 5, Tick: 7, Node: 256}, {Wall: 5, Tick: topTick + 1}, {Wall: topWall + 1, Tick: 7, Node: 2}, {Wall: -1, Tick: -1, Node: -1},
}

var longValues = []string{strings.Repeat("a", topValue+1), strings.Repeat("\u00e9", topValue/2) + "a", strings.Repeat("\xff", 1<<10)}

func at(wall, tick, node int) api.Stamp {
	return api.Stamp{Wall: wall, Tick: tick, Node: node}
}

func with(s api.Stamp, value string) api.Version {
	return api.Version{At: s, Value: value}
}

func gone(s api.Stamp) api.Version {
	return api.Version{At: s, Gone: true}
}

// put and del are versions at a Wall alone.
func put(wall int, value string) api.Version { return with(at(wall, 0, 0), value) }
func del(wall int) api.Version               { return gone(at(wall, 0, 0)) }

// entry is a key with these versions.
func entry(k string, c ...api.Version) api.Entry {
	return api.Entry{Key: k, Chain: c}
}

// chapter is the index of the chapter's example.
func chapter() []api.Entry {
	return []api.Entry{entry("a", put(1, "x")), entry("b", del(2)), entry("c", put(3, "z"))}
}

// numbered is a key that follows those of the lesser numbers; there is one between those of two even ones.
func numbered(n int) string {
	return fmt.Sprintf("k%03d", n)
}

// chainOf is a valid chain of n versions, at the even Walls from 2 on.
func chainOf(n int) []api.Version {
	var c []api.Version
	for i := range n {
		if i%3 == 1 {
			c = append(c, del(2*i+2))
		} else {
			c = append(c, put(2*i+2, strings.Repeat("v", i%7)))
		}
	}
	return c
}

// some is a short chain, of one kind or another.
func some(i int) []api.Version {
	switch i % 4 {
	case 0:
		return []api.Version{put(2, "a"), del(4), put(6, "b")}
	case 1:
		return []api.Version{del(3)}
	case 2:
		return []api.Version{put(1, "")}
	default:
		return []api.Version{put(5, "c"), del(7)}
	}
}

// ofLength is a valid index of n entries, the keys of the even numbers from 2 on.
func ofLength(n int) []api.Entry {
	var ix []api.Entry
	for i := range n {
		ix = append(ix, api.Entry{Key: numbered(2*i + 2), Chain: some(i)})
	}
	return ix
}

func badVersions(wall int) []api.Version {
	l := []api.Version{{At: at(wall, 0, 0), Gone: true, Value: "a"}, gone(at(wall, -1, 0)), put(wall, longValues[0]), gone(at(wall, topTick+1, 0)), with(at(wall, 0, 256), "a")}
	for _, s := range badStamps {
		l = append(l, with(s, "a"), gone(s))
	}
	for _, value := range longValues {
		l = append(l, put(wall, value), api.Version{At: at(wall, 0, 0), Gone: true, Value: value})
	}
	return l
}

// badChains are chains that no entry may have.
func badChains() [][]api.Version {
	l := [][]api.Version{nil, {}, chainOf(65), chainOf(66), chainOf(500), {put(3, "a"), put(3, "a")}, {put(3, "a"), put(2, "b")}, {put(1, "a"), put(4, "b"), del(4)}, {with(at(1, 0, 1), "a"), del(1)}}
	for _, v := range badVersions(5) {
		l = append(l, []api.Version{v}, []api.Version{v, put(9, "a")}, []api.Version{put(1, "a"), v}, []api.Version{put(1, "a"), v, del(9)})
	}
	return l
}

// wrongAt are indexes that are not valid because of what is at place i of ix, which is valid.
func wrongAt(ix []api.Entry, i int) [][]api.Entry {
	var l [][]api.Entry
	k, c := ix[i].Key, ix[i].Chain
	for _, bad := range badKeys {
		l = append(l, replaced(ix, i, api.Entry{Key: k + bad, Chain: c}), replaced(ix, i, api.Entry{Key: bad, Chain: c}))
	}
	l = append(l, replaced(ix, i, api.Entry{Chain: c}), replaced(ix, i, api.Entry{}))
	for _, bad := range badChains() {
		l = append(l, replaced(ix, i, api.Entry{Key: k, Chain: bad}))
	}
	for j := range i {
		l = append(l, replaced(ix, i, api.Entry{Key: ix[j].Key, Chain: c}), replaced(ix, j, api.Entry{Key: k, Chain: c}))
		l = append(l, replaced(replaced(ix, i, ix[j]), j, ix[i]))
	}
	return l
}

// badIndexes are indexes that are not valid, each for one reason or for several.
func badIndexes() [][]api.Entry {
	l := [][]api.Entry{ofLength(65), ofLength(66), ofLength(400), {entry("a", put(1, "x")), entry("a", put(1, "x"))}, {entry("b", put(1, "x")), entry("a", put(1, "x"))}}
	for _, n := range []int{1, 2, 3} {
		for i := range n {
			l = append(l, wrongAt(ofLength(n), i)...)
		}
	}
	full := ofLength(topEntries)
	for _, i := range []int{0, topEntries / 2, topEntries - 1} {
		l = append(l, replaced(full, i, entry(full[i].Key)), replaced(full, i, entry(full[i].Key+" ", put(1, "x"))), replaced(full, i, entry(numbered(2*topEntries-i), put(1, "x"))))
	}
	return l
}

func replaced(ix []api.Entry, i int, e api.Entry) []api.Entry {
	ix = slices.Clone(ix)
	ix[i] = e
	return ix
}

// validKey, validVersion, validChain and valid are the definitions of layers 4, 5, 7 and 8.
func validKey(k string) bool {
	if k == "" || len(k) > topKey || !utf8.ValidString(k) {
		return false
	}
	for _, letter := range k {
		if letter < 33 || letter >= 127 && letter <= 159 {
			return false
		}
	}
	return true
}

func validVersion(v api.Version) bool {
	s := v.At
	switch {
	case s.Wall < 0, s.Tick < 0, s.Node < 0, s.Wall > topWall, s.Tick > topTick, s.Node > topNode:
		return false
	case v.Gone:
		return v.Value == ""
	}
	return len(v.Value) <= topValue
}

func validChain(c []api.Version) bool {
	if len(c) > topVersions {
		return false
	}
	for i := range c {
		if !validVersion(c[i]) || i > 0 && order(c[i-1].At, c[i].At) >= 0 {
			return false
		}
	}
	return true
}

func valid(ix []api.Entry) bool {
	if len(ix) > topEntries {
		return false
	}
	for i, e := range ix {
		if !validKey(e.Key) || !validChain(e.Chain) || len(e.Chain) == 0 || i > 0 && keyOrder(ix[i-1].Key, e.Key) >= 0 {
			return false
		}
	}
	return true
}

// order compares stamps by Wall, then by Tick, then by Node.
func order(a, b api.Stamp) int {
	return slices.Compare([]int{a.Wall, a.Tick, a.Node}, []int{b.Wall, b.Tick, b.Node})
}

// keyOrder compares by letters.
func keyOrder(a, b string) int {
	return slices.Compare([]rune(a), []rune(b))
}

// chainIn is the chain of k: no string but k itself has it.
func chainIn(ix []api.Entry, k string) []api.Version {
	for _, e := range ix {
		if e.Key == k {
			return e.Chain
		}
	}
	return nil
}

// putIn is Put in the chapter's words.
func putIn(ix []api.Entry, k string, v api.Version) ([]api.Entry, api.Errno) {
	c := chainIn(ix, k)
	switch {
	case !valid(ix), !validKey(k), !validVersion(v):
		return nil, api.ErrArg
	case len(c) > 0 && order(v.At, c[len(c)-1].At) <= 0:
		return nil, api.ErrRange
	case len(c) == topVersions, len(c) == 0 && len(ix) == topEntries:
		return nil, api.ErrFull
	}
	d := []api.Entry{{Key: k, Chain: append(slices.Clone(c), v)}}
	for _, e := range ix {
		if e.Key != k {
			d = append(d, e)
		}
	}
	slices.SortFunc(d, func(a, b api.Entry) int { return keyOrder(a.Key, b.Key) })
	return d, api.OK
}

// versionAt is what layer 7 says of a chain that is valid.
func versionAt(c []api.Version, s api.Stamp) (api.Version, bool) {
	for i := len(c) - 1; i >= 0; i-- {
		if order(c[i].At, s) <= 0 {
			return c[i], true
		}
	}
	return api.Version{}, false
}

// readIn is Read in the chapter's words.
func readIn(ix []api.Entry, k string, s api.Stamp) (api.Version, bool) {
	if !valid(ix) {
		return api.Version{}, false
	}
	return versionAt(chainIn(ix, k), s)
}

// pageOf is Page in the chapter's words.
func pageOf(ix []api.Entry, lo, hi string, s api.Stamp, limit int) ([]api.Item, string, bool) {
	if !valid(ix) {
		return nil, "", false
	}
	var all []api.Item
	for _, e := range ix {
		liesIn := keyOrder(e.Key, lo) >= 0 && (hi == "" || keyOrder(e.Key, hi) < 0)
		if v, ok := versionAt(e.Chain, s); liesIn && ok && !v.Gone {
			all = append(all, api.Item{Key: e.Key, Value: v.Value})
		}
	}
	if n := max(limit, 0); n < len(all) {
		return all[:n], all[n].Key, true
	}
	return all, "", false
}

// pruned is Prune in the chapter's words.
func pruned(ix []api.Entry, mark api.Stamp) []api.Entry {
	if !valid(ix) {
		return nil
	}
	var d []api.Entry
	for _, e := range ix {
		atMark, ok := versionAt(e.Chain, mark)
		var c []api.Version
		for _, v := range e.Chain {
			if !ok || order(v.At, atMark.At) > 0 || v == atMark && !v.Gone {
				c = append(c, v)
			}
		}
		if len(c) > 0 {
			d = append(d, api.Entry{Key: e.Key, Chain: c})
		}
	}
	return d
}

// cut is Cut in the chapter's words.
func cut(ix []api.Entry, at string) (a, b []api.Entry) {
	if !valid(ix) {
		return nil, nil
	}
	for _, e := range ix {
		if keyOrder(e.Key, at) < 0 {
			a = append(a, e)
		} else {
			b = append(b, e)
		}
	}
	return a, b
}

// joined is Join in the chapter's words.
func joined(a, b []api.Entry) ([]api.Entry, api.Errno) {
	if !valid(a) || !valid(b) {
		return nil, api.ErrArg
	}
	for _, d := range a {
		for _, e := range b {
			if keyOrder(d.Key, e.Key) >= 0 {
				return nil, api.ErrRange
			}
		}
	}
	if len(a)+len(b) > topEntries {
		return nil, api.ErrFull
	}
	return slices.Concat(a, b), api.OK
}

func sameEntry(a, b api.Entry) bool {
	return a.Key == b.Key && slices.Equal(a.Chain, b.Chain)
}

func same(a, b []api.Entry) bool {
	return slices.EqualFunc(a, b, sameEntry)
}

// copied is ix in memory of its own.
func copied(ix []api.Entry) []api.Entry {
	ix = slices.Clone(ix)
	for i := range ix {
		ix[i].Chain = slices.Clone(ix[i].Chain)
	}
	return ix
}

// brief is an index in few enough letters to be read.
func brief(ix []api.Entry) string {
	return fmt.Sprintf("%d entries %.300s", len(ix), fmt.Sprint(ix))
}

// lent is an index with room behind its end and behind those of its chains, with what lies beside them, as a caller may hold it.
type lent struct {
	all, before, ix []api.Entry
	chains          [][]api.Version
}

func lend(ix []api.Entry) lent {
	other := with(at(7, 7, 7), "another's")
	var l lent
	l.all = slices.Concat([]api.Entry{entry("other", other)}, ix, []api.Entry{entry("other", other), entry("third", other), {}})
	l.ix = l.all[1 : 1+len(ix)]
	for i, e := range ix {
		c := slices.Concat([]api.Version{other}, e.Chain, []api.Version{other, other})
		l.chains = append(l.chains, c)
		l.ix[i].Chain = c[1 : 1+len(e.Chain)]
	}
	l.before = copied(l.all)
	return l
}

// kept reports whether the caller's memory is as it was.
func (l lent) kept() bool {
	other := with(at(7, 7, 7), "another's")
	for _, c := range l.chains {
		if c[0] != other || c[len(c)-2] != other || c[len(c)-1] != other {
			return false
		}
	}
	return same(l.all, l.before)
}

// wantKept asks that the caller's memory is as it was, even when what came back is written to and appended to.
func (l lent) wantKept(t *testing.T, call string, lists ...[]api.Entry) {
	t.Helper()
	if !l.kept() {
		t.Errorf("%s has changed %s", call, brief(l.before))
	}
	wantApart(t, call, lists...)
	if !l.kept() {
		t.Errorf("%s hands out the caller's memory of %s", call, brief(l.before))
	}
}

// wantApart writes to these lists and to their chains, and behind their ends, and asks that each still has what was written to it.
func wantApart(t *testing.T, call string, lists ...[]api.Entry) {
	t.Helper()
	n := 0
	for _, ix := range lists {
		for i := range ix {
			n++
			ix[i].Key = numbered(n)
			for j := range ix[i].Chain {
				ix[i].Chain[j] = put(n, "mine")
			}
		}
	}
	for _, ix := range lists {
		for i := range ix {
			_ = append(ix[i].Chain, put(0, "behind"))
		}
		_ = append(ix, entry("behind"))
	}
	n = 0
	for _, ix := range lists {
		for _, e := range ix {
			n++
			foreign := slices.ContainsFunc(e.Chain, func(v api.Version) bool { return v != put(n, "mine") })
			if e.Key != numbered(n) || foreign {
				t.Errorf("%s: the lists that come back share memory", call)
				return
			}
		}
	}
}

func wantRight(t *testing.T, ix []api.Entry, want bool) {
	t.Helper()
	l := lend(ix)
	if index.Right(l.ix) != want {
		t.Errorf("Right(%s) = %t", brief(ix), !want)
	}
	l.wantKept(t, "Right")
}

func wantPut(t *testing.T, ix []api.Entry, k string, v api.Version, want []api.Entry, wantErr api.Errno) {
	t.Helper()
	l := lend(ix)
	d, err := index.Put(l.ix, k, v)
	if !same(d, want) || err != wantErr {
		t.Errorf("Put(%s, %q, %v) = %s, %d, want %s, %d", brief(ix), k, v, brief(d), err, brief(want), wantErr)
	}
	l.wantKept(t, "Put", d)
}

func wantNoPut(t *testing.T, ix []api.Entry, k string, v api.Version, wantErr api.Errno) {
	t.Helper()
	wantPut(t, ix, k, v, nil, wantErr)
}

func wantRead(t *testing.T, ix []api.Entry, k string, s api.Stamp, want api.Version, wantOK bool) {
	t.Helper()
	l := lend(ix)
	if v, ok := index.Read(l.ix, k, s); v != want || ok != wantOK {
		t.Errorf("Read(%s, %q, %v) = %v, %t, want %v, %t", brief(ix), k, s, v, ok, want, wantOK)
	}
	l.wantKept(t, "Read")
}

func wantNoRead(t *testing.T, ix []api.Entry, k string, s api.Stamp) {
	t.Helper()
	wantRead(t, ix, k, s, api.Version{}, false)
}

// asked is what a page is asked with.
type asked struct {
	lo, hi string
	s      api.Stamp
	limit  int
}

func wantPage(t *testing.T, ix []api.Entry, q asked, want []api.Item, wantNext string, wantMore bool) {
	t.Helper()
	l := lend(ix)
	items, next, more := index.Page(l.ix, q.lo, q.hi, q.s, q.limit)
	if !slices.Equal(items, want) || next != wantNext || more != wantMore {
		t.Errorf("Page(%s, %+v) = %v, %q, %t, want %v, %q, %t", brief(ix), q, items, next, more, want, wantNext, wantMore)
	}
	l.wantKept(t, "Page")
}

func wantNoPage(t *testing.T, ix []api.Entry, q asked) {
	t.Helper()
	wantPage(t, ix, q, nil, "", false)
}

func wantPageByDefinition(t *testing.T, ix []api.Entry, q asked) {
	t.Helper()
	items, next, more := pageOf(ix, q.lo, q.hi, q.s, q.limit)
	wantPage(t, ix, q, items, next, more)
}

func wantPrune(t *testing.T, ix []api.Entry, mark api.Stamp, want []api.Entry) {
	t.Helper()
	l := lend(ix)
	d := index.Prune(l.ix, mark)
	if !same(d, want) {
		t.Errorf("Prune(%s, %v) = %s, want %s", brief(ix), mark, brief(d), brief(want))
	}
	l.wantKept(t, "Prune", d)
}

func wantCut(t *testing.T, ix []api.Entry, at string, wantA, wantB []api.Entry) {
	t.Helper()
	l := lend(ix)
	a, b := index.Cut(l.ix, at)
	if !same(a, wantA) || !same(b, wantB) {
		t.Errorf("Cut(%s, %q) = %s, %s, want %s, %s", brief(ix), at, brief(a), brief(b), brief(wantA), brief(wantB))
	}
	l.wantKept(t, "Cut", a, b)
}

func wantJoin(t *testing.T, a, b []api.Entry, want []api.Entry, wantErr api.Errno) {
	t.Helper()
	l, m := lend(a), lend(b)
	d, err := index.Join(l.ix, m.ix)
	if !same(d, want) || err != wantErr {
		t.Errorf("Join(%s, %s) = %s, %d, want %s, %d", brief(a), brief(b), brief(d), err, brief(want), wantErr)
	}
	l.wantKept(t, "Join", d)
	m.wantKept(t, "Join", d)
}

func wantNoJoin(t *testing.T, a, b []api.Entry, wantErr api.Errno) {
	t.Helper()
	wantJoin(t, a, b, nil, wantErr)
}

// P8.1

func TestRightAtEachLength(t *testing.T) {
	for _, x := range []struct {
		n    int
		want bool
	}{{0, true}, {1, true}, {2, true}, {3, true}, {63, true}, {64, true}, {65, false}, {66, false}, {128, false}, {1 << 12, false}} {
		wantRight(t, ofLength(x.n), x.want)
	}
	if !index.Right(nil) || !index.Right([]api.Entry{}) {
		t.Error("an index of no entries is not valid")
	}
}

func TestRightOfEachKey(t *testing.T) {
	var all []api.Entry
	for i, k := range goodKeys {
		e := entry(k, put(1, "x"))
		wantRight(t, []api.Entry{e}, true)
		all = append(all, e)
		for _, before := range all[:i] {
			wantRight(t, []api.Entry{before, e}, true)
			wantRight(t, []api.Entry{e, before}, false)
		}
		wantRight(t, []api.Entry{e, e}, false)
	}
	wantRight(t, all, true)
	wantRight(t, []api.Entry{entry("", put(1, "x"))}, false)
	for _, k := range badKeys {
		wantRight(t, []api.Entry{entry(k, put(1, "x"))}, false)
	}
}

func TestRightOfEachChain(t *testing.T) {
	for _, n := range []int{1, 2, 3, 63, 64} {
		wantRight(t, []api.Entry{{Key: "a", Chain: chainOf(n)}}, true)
		wantRight(t, []api.Entry{{Key: "a", Chain: chainOf(n)}, {Key: "b", Chain: chainOf(n)}}, true)
	}
	for _, c := range badChains() {
		wantRight(t, []api.Entry{{Key: "a", Chain: c}}, false)
	}
	last := at(topWall, topTick, topNode)
	for _, v := range []api.Version{del(0), put(0, ""), gone(last), with(last, strings.Repeat("\xff", topValue))} {
		wantRight(t, []api.Entry{entry("a", v)}, true)
	}
}

func TestRightWithOneWrongEntry(t *testing.T) {
	for _, n := range []int{1, 2, 3, 7, 63, 64} {
		for _, i := range []int{0, n / 2, n - 1} {
			ix := ofLength(n)
			for _, bad := range wrongAt(ix, i) {
				wantRight(t, bad, false)
			}
			// It is only what is wrong about them that tells.
			for _, k := range []string{numbered(2*i + 1), numbered(2*i + 3), ix[i].Key + "!", ix[i].Key + strings.Repeat("a", topKey-4), ix[i].Key + "\ufffd"} {
				wantRight(t, replaced(ix, i, entry(k, put(1, "x"))), true)
			}
			wantRight(t, replaced(ix, i, api.Entry{Key: ix[i].Key, Chain: chainOf(topVersions)}), true)
		}
	}
}

func TestIndexesThatAreNotValid(t *testing.T) {
	for _, ix := range badIndexes() {
		wantRight(t, ix, false)
		for _, k := range []string{"a", numbered(2), numbered(3), numbered(999), "", "a b"} {
			wantNoPut(t, ix, k, put(2000, "x"), api.ErrArg)
			wantNoRead(t, ix, k, at(2000, 0, 0))
			wantCut(t, ix, k, nil, nil)
		}
		wantNoPut(t, ix, numbered(2), put(0, "x"), api.ErrArg)
		wantNoPut(t, ix, numbered(2), put(-1, "x"), api.ErrArg)
		for _, s := range []api.Stamp{{}, at(2, 0, 0), at(9, 0, 0), at(2000, 0, 0), at(-1, 0, 0)} {
			wantNoRead(t, ix, numbered(2), s)
			wantPrune(t, ix, s, nil)
			for _, limit := range []int{-1, 0, 1, 100} {
				wantNoPage(t, ix, asked{"", "", s, limit})
				wantNoPage(t, ix, asked{"a", "z", s, limit})
			}
		}
		for _, other := range [][]api.Entry{nil, {entry("z", put(1, "x"))}, {entry("!", put(1, "x"))}, ofLength(1), ofLength(64), ix} {
			wantNoJoin(t, ix, other, api.ErrArg)
			wantNoJoin(t, other, ix, api.ErrArg)
		}
	}
}

func TestPutOfTheFirstKey(t *testing.T) {
	last := at(topWall, topTick, topNode)
	for _, v := range []api.Version{put(1, "x"), put(0, ""), del(0), del(5), gone(last), with(last, strings.Repeat("v", topValue))} {
		for _, k := range goodKeys {
			wantPut(t, nil, k, v, []api.Entry{entry(k, v)}, api.OK)
		}
		wantPut(t, []api.Entry{}, "a", v, []api.Entry{entry("a", v)}, api.OK)
	}
}

func TestPutOfKeysThatAreNotThere(t *testing.T) {
	v := put(1, "new")
	for _, n := range []int{1, 2, 3, 62, 63} {
		ix := ofLength(n)
		for i := range n + 1 {
			for _, k := range []string{numbered(2*i + 1), numbered(2*i) + "!", numbered(2*i) + strings.Repeat("~", topKey-4)} {
				wantPut(t, ix, k, v, slices.Concat(ix[:i], []api.Entry{entry(k, v)}, ix[i:]), api.OK)
			}
		}
		for _, k := range []string{"!", "a", "k"} {
			wantPut(t, ix, k, v, slices.Concat([]api.Entry{entry(k, v)}, ix), api.OK)
		}
		for _, k := range []string{"kk", "z", "\ufffd", "\U0010ffff"} {
			wantPut(t, ix, k, v, slices.Concat(ix, []api.Entry{entry(k, v)}), api.OK)
		}
	}
}

func TestPutOfKeysThatAreThere(t *testing.T) {
	for _, n := range []int{1, 2, 3, 63, 64} {
		ix := ofLength(n)
		for i, e := range ix {
			for _, v := range []api.Version{put(9, "new"), put(9, ""), del(9), gone(at(topWall, topTick, topNode))} {
				wantPut(t, ix, e.Key, v, replaced(ix, i, api.Entry{Key: e.Key, Chain: slices.Concat(e.Chain, []api.Version{v})}), api.OK)
			}
		}
	}
}

func TestPutToChainsOfEachLength(t *testing.T) {
	for n := 1; n < topVersions; n++ {
		ix := []api.Entry{entry("a", put(1, "x")), {Key: "b", Chain: chainOf(n)}, entry("c", put(3, "z"))}
		v := put(2*n+1, "x")
		wantPut(t, ix, "b", v, replaced(ix, 1, api.Entry{Key: "b", Chain: slices.Concat(chainOf(n), []api.Version{v})}), api.OK)
		wantNoPut(t, ix, "b", put(2*n, "x"), api.ErrRange)
		wantNoPut(t, ix, "b", del(1), api.ErrRange)
	}
	full := []api.Entry{entry("a", put(1, "x")), {Key: "b", Chain: chainOf(topVersions)}, entry("c", put(3, "z"))}
	wantNoPut(t, full, "b", put(129, "x"), api.ErrFull)
	wantNoPut(t, full, "b", gone(at(128, 0, 1)), api.ErrFull)
	wantPut(t, full, "bb", put(1, "x"), slices.Insert(slices.Clone(full), 2, entry("bb", put(1, "x"))), api.OK)
	wantPut(t, full, "a", put(2, "y"), replaced(full, 0, entry("a", put(1, "x"), put(2, "y"))), api.OK)
}

func TestPutOfWhatIsNotLater(t *testing.T) {
	ix := []api.Entry{entry("a", put(1, "x"), with(at(5, 6, 7), "y")), entry("b", put(3, "z"), gone(at(5, 6, 7)))}
	for _, k := range []string{"a", "b"} {
		for _, s := range []api.Stamp{{}, at(1, 0, 0), at(4, 9, 9), at(5, 5, 9), at(5, 6, 6), at(5, 6, 7)} {
			wantNoPut(t, ix, k, with(s, "x"), api.ErrRange)
			wantNoPut(t, ix, k, gone(s), api.ErrRange)
		}
	}
	// It is the key's own chain that counts.
	for _, s := range []api.Stamp{{}, at(5, 6, 7)} {
		wantPut(t, ix, "c", with(s, "x"), append(slices.Clone(ix), entry("c", with(s, "x"))), api.OK)
		wantPut(t, ix, "aa", gone(s), slices.Insert(slices.Clone(ix), 1, entry("aa", gone(s))), api.OK)
	}
	for _, s := range []api.Stamp{at(5, 6, 8), at(5, 7, 0), at(6, 0, 0)} {
		wantPut(t, ix, "a", with(s, "x"), replaced(ix, 0, entry("a", put(1, "x"), with(at(5, 6, 7), "y"), with(s, "x"))), api.OK)
	}
}

func TestPutToFullIndexes(t *testing.T) {
	full := ofLength(topEntries)
	for i := range topEntries + 1 {
		for _, v := range []api.Version{put(0, "x"), put(9, "x"), del(9)} {
			wantNoPut(t, full, numbered(2*i+1), v, api.ErrFull)
		}
	}
	for _, k := range goodKeys {
		wantNoPut(t, full, k, put(9, "x"), api.ErrFull)
	}
	// A key that is there needs no room.
	for i, e := range full {
		wantPut(t, full, e.Key, del(9), replaced(full, i, api.Entry{Key: e.Key, Chain: append(e.Chain, del(9))}), api.OK)
	}
}

func TestPutOfWrongArguments(t *testing.T) {
	for _, n := range []int{0, 1, 2, 63, 64} {
		ix := ofLength(n)
		for _, k := range append([]string{"", "k002 ", "k002\xff"}, badKeys...) {
			for _, v := range []api.Version{put(9, "x"), put(0, "x"), put(-1, "x"), put(9, longValues[0])} {
				wantNoPut(t, ix, k, v, api.ErrArg)
			}
		}
		// Neither what is full nor the order is told ahead of a version that is wrong.
		for _, k := range []string{"a", numbered(2), numbered(3), numbered(2 * n), "z"} {
			for _, v := range slices.Concat(badVersions(0), badVersions(9)) {
				wantNoPut(t, ix, k, v, api.ErrArg)
			}
		}
	}
}

func TestTheOrderOfPutsErrors(t *testing.T) {
	full := ofLength(topEntries)
	full[5].Chain = chainOf(topVersions)
	tooLong := append(slices.Clone(full), entry("z", put(1, "x")))
	here, other := full[5].Key, numbered(1)
	for _, x := range []struct {
		ix   []api.Entry
		k    string
		v    api.Version
		want api.Errno
	}{
		{tooLong, here, put(128, "x"), api.ErrArg},
		{tooLong, other, put(129, "x"), api.ErrArg},
		{tooLong, "a b", put(-1, "x"), api.ErrArg},
		{full, "a b", put(129, "x"), api.ErrArg},
		{full, here + " ", put(128, "x"), api.ErrArg},
		{full, here, api.Version{At: at(129, 0, 0), Gone: true, Value: "x"}, api.ErrArg},
		{full, here, put(128, longValues[0]), api.ErrArg},
		{full, other, put(129, longValues[0]), api.ErrArg},
		{full, other, with(at(0, 0, -1), "x"), api.ErrArg},
		{full, here, put(128, "x"), api.ErrRange},
		{full, here, del(0), api.ErrRange},
		{full, here, put(129, "x"), api.ErrFull},
		{full, other, put(0, "x"), api.ErrFull},
		{full, other, put(129, "x"), api.ErrFull},
		{full, full[4].Key, put(0, "x"), api.ErrRange},
	} {
		wantNoPut(t, x.ix, x.k, x.v, x.want)
	}
}

// P8.2

func TestReadOfTheChapter(t *testing.T) {
	ix := chapter()
	for wall := range 6 {
		s := at(wall, 0, 0)
		wantRead(t, ix, "a", s, []api.Version{{}, put(1, "x"), put(1, "x"), put(1, "x"), put(1, "x"), put(1, "x")}[wall], wall >= 1)
		wantRead(t, ix, "b", s, []api.Version{{}, {}, del(2), del(2), del(2), del(2)}[wall], wall >= 2)
		wantRead(t, ix, "c", s, []api.Version{{}, {}, {}, put(3, "z"), put(3, "z"), put(3, "z")}[wall], wall >= 3)
		for _, k := range []string{"", "A", "aa", "bb", "d", "a b", "\xff"} {
			wantNoRead(t, ix, k, s)
			wantNoRead(t, nil, k, s)
		}
	}
}

func TestReadOfEachKey(t *testing.T) {
	for _, n := range []int{1, 2, 3, 63, 64} {
		ix := ofLength(n)
		ix[n/2].Chain = chainOf(topVersions)
		for _, e := range ix {
			wantNoRead(t, ix, e.Key, at(0, topTick, topNode))
			for i, v := range e.Chain {
				wantRead(t, ix, e.Key, v.At, v, true)
				wantRead(t, ix, e.Key, at(v.At.Wall, 0, 1), v, true)
				if i > 0 {
					wantRead(t, ix, e.Key, at(v.At.Wall-1, topTick, topNode), e.Chain[i-1], true)
				}
			}
			wantRead(t, ix, e.Key, at(topWall, topTick, topNode), e.Chain[len(e.Chain)-1], true)
			for _, k := range []string{e.Key + "!", e.Key + " ", e.Key + "\xff", e.Key[:3]} {
				wantNoRead(t, ix, k, at(topWall, topTick, topNode))
			}
		}
		for i := range n + 1 {
			wantNoRead(t, ix, numbered(2*i+1), at(topWall, topTick, topNode))
		}
	}
}

// A broken byte has the same letter as the key that is U+FFFD, but it is another string.
func TestReadOfTheLettersOfAKey(t *testing.T) {
	ix := []api.Entry{entry("\ufffd", put(1, "x")), entry("\ufffd\ufffd", put(1, "y"))}
	wantRead(t, ix, "\ufffd", at(1, 0, 0), put(1, "x"), true)
	wantRead(t, ix, "\ufffd\ufffd", at(1, 0, 0), put(1, "y"), true)
	for _, k := range []string{"\xff", "\x80", "\xff\xff", "\ufffd\xff", "\xff\ufffd", "\xef\xbf", "\xed\xa0\x80"} {
		wantNoRead(t, ix, k, at(1, 0, 0))
		wantNoPut(t, ix, k, put(9, "z"), api.ErrArg)
	}
}

// A stamp that is not valid has its place in the order, too.
func TestStampsThatAreNotValid(t *testing.T) {
	ix := chapter()
	x := []api.Item{{Key: "a", Value: "x"}}
	for _, s := range []api.Stamp{at(-1, 0, 0), at(math.MinInt, 9, 9), at(0, topTick+1, 0), at(1, 0, -1), at(1, -1, 300)} {
		wantNoRead(t, ix, "a", s)
		wantNoPage(t, ix, asked{"", "", s, 9})
		wantPrune(t, ix, s, ix)
	}
	for _, s := range []api.Stamp{at(1, 0, 256), at(1, topTick+1, -1), at(2, -1, 0), at(2, 0, -1)} {
		wantRead(t, ix, "a", s, put(1, "x"), true)
		wantNoRead(t, ix, "b", s)
		wantPage(t, ix, asked{"", "", s, 9}, x, "", false)
		wantPrune(t, ix, s, ix)
	}
	for _, s := range []api.Stamp{at(3, 0, 256), at(topWall+1, 0, 0), at(math.MaxInt, math.MinInt, -1)} {
		wantRead(t, ix, "c", s, put(3, "z"), true)
		wantPage(t, ix, asked{"", "", s, 1}, x, "c", true)
		wantPrune(t, ix, s, []api.Entry{ix[0], ix[2]})
	}
}

// limits are limits around n, and the ends of all ints.
func limits(n int) []int {
	return []int{math.MinInt, -2, -1, 0, 1, 2, n - 1, n, n + 1, 64, 65, math.MaxInt}
}

func TestPageOfTheChapter(t *testing.T) {
	ix := chapter()
	x, z := api.Item{Key: "a", Value: "x"}, api.Item{Key: "c", Value: "z"}
	for _, hi := range []string{"", "d", "cc", "c!"} {
		for _, lo := range []string{"", "A", "a"} {
			wantPage(t, ix, asked{lo, hi, at(3, 0, 0), math.MinInt}, nil, "a", true)
			wantPage(t, ix, asked{lo, hi, at(3, 0, 0), -1}, nil, "a", true)
			wantPage(t, ix, asked{lo, hi, at(3, 0, 0), 0}, nil, "a", true)
			wantPage(t, ix, asked{lo, hi, at(3, 0, 0), 1}, []api.Item{x}, "c", true)
			wantPage(t, ix, asked{lo, hi, at(3, 0, 0), 2}, []api.Item{x, z}, "", false)
			wantPage(t, ix, asked{lo, hi, at(3, 0, 0), 3}, []api.Item{x, z}, "", false)
			wantPage(t, ix, asked{lo, hi, at(3, 0, 0), math.MaxInt}, []api.Item{x, z}, "", false)
			for _, s := range []api.Stamp{at(1, 0, 0), at(2, 0, 0), at(2, topTick, topNode)} {
				wantPage(t, ix, asked{lo, hi, s, 0}, nil, "a", true)
				wantPage(t, ix, asked{lo, hi, s, 1}, []api.Item{x}, "", false)
			}
			wantNoPage(t, ix, asked{lo, hi, at(0, topTick, topNode), 0})
		}
		for _, lo := range []string{"a!", "aa", "b", "bb", "c"} {
			wantPage(t, ix, asked{lo, hi, at(3, 0, 0), 0}, nil, "c", true)
			wantPage(t, ix, asked{lo, hi, at(3, 0, 0), 1}, []api.Item{z}, "", false)
			wantNoPage(t, ix, asked{lo, hi, at(2, 0, 0), 1})
		}
	}
	for _, hi := range []string{"a!", "aa", "b", "bb", "c"} {
		wantPage(t, ix, asked{"", hi, at(3, 0, 0), 1}, []api.Item{x}, "", false)
		wantPage(t, ix, asked{"a", hi, at(3, 0, 0), 0}, nil, "a", true)
		wantNoPage(t, ix, asked{"a!", hi, at(3, 0, 0), 1})
	}
	for _, q := range []asked{{"a", "a", at(3, 0, 0), 9}, {"", "a", at(3, 0, 0), 9}, {"c!", "", at(3, 0, 0), 9}, {"c", "a", at(3, 0, 0), 9}, {"d", "a", at(3, 0, 0), 9}, {"c", "c", at(3, 0, 0), 0}, {"b", "c", at(3, 0, 0), -1}} {
		wantNoPage(t, ix, q)
	}
}

func TestPageOfNoEntries(t *testing.T) {
	for _, limit := range limits(0) {
		for _, lo := range []string{"", "a", "\xff"} {
			wantNoPage(t, nil, asked{lo, "", at(9, 0, 0), limit})
			wantNoPage(t, []api.Entry{}, asked{lo, "z", at(9, 0, 0), limit})
		}
	}
}

// beside are strings at and just beside k, keys and no keys.
func beside(k string) []string {
	return []string{k, k[:len(k)-1], k[:len(k)-1] + string([]byte{k[len(k)-1] - 1}), k[:len(k)-1] + string([]byte{k[len(k)-1] + 1}), k + "!", k + " ", k + "\x00", k + "\xff"}
}

func TestPageFromAndToEachKey(t *testing.T) {
	ends := []string{"", " ", "a", "\x00", "\xff", "\U0010ffff", strings.Repeat("k", 40)}
	ix := ofLength(9)
	for _, i := range []int{0, 1, 4, 8} {
		ends = append(ends, beside(ix[i].Key)...)
	}
	for _, lo := range ends {
		for _, hi := range ends {
			for wall := range 9 {
				for _, limit := range []int{-1, 0, 1, 3, 9} {
					wantPageByDefinition(t, ix, asked{lo, hi, at(wall, 0, 0), limit})
				}
			}
		}
	}
}

func TestPageWithEachLimit(t *testing.T) {
	for _, n := range []int{1, 2, 3, 63, 64} {
		var all []api.Item
		var ix []api.Entry
		for i := range n {
			all = append(all, api.Item{Key: numbered(i), Value: numbered(i)})
			ix = append(ix, entry(numbered(i), put(5, numbered(i))))
		}
		for limit := range n {
			wantPage(t, ix, asked{"", "", at(5, 0, 0), limit}, all[:limit], all[limit].Key, true)
			wantPage(t, ix, asked{"", all[limit].Key, at(5, 0, 0), limit}, all[:limit], "", false)
			wantPage(t, ix, asked{all[limit].Key, "", at(5, 0, 0), n - limit}, all[limit:], "", false)
		}
		for _, limit := range []int{n, n + 1, 64, 65, math.MaxInt} {
			wantPage(t, ix, asked{"", "", at(5, 0, 0), limit}, all, "", false)
		}
		for _, limit := range []int{0, -1, -64, math.MinInt} {
			wantPage(t, ix, asked{"", "", at(5, 0, 0), limit}, nil, all[0].Key, true)
			wantPage(t, ix, asked{numbered(n - 1), "", at(5, 0, 0), limit}, nil, numbered(n-1), true)
		}
	}
}

// Keys that are Gone or not yet there are neither counted nor named as the next one.
func TestPageBesideKeysThatAreNotAlive(t *testing.T) {
	ix := []api.Entry{
		entry("a", put(9, "late")), entry("b", put(1, "x"), del(3)), entry("c", put(2, "")), entry("d", del(1), put(6, "w")),
		entry("e", put(1, "y"), del(2), put(3, "z")), entry("f", del(1)), entry("g", put(4, "v")), entry("h", put(9, "late")),
	}
	c, e, g := api.Item{Key: "c"}, api.Item{Key: "e", Value: "z"}, api.Item{Key: "g", Value: "v"}
	wantPage(t, ix, asked{"", "", at(5, 0, 0), 0}, nil, "c", true)
	wantPage(t, ix, asked{"", "", at(5, 0, 0), 1}, []api.Item{c}, "e", true)
	wantPage(t, ix, asked{"", "", at(5, 0, 0), 2}, []api.Item{c, e}, "g", true)
	wantPage(t, ix, asked{"", "", at(5, 0, 0), 3}, []api.Item{c, e, g}, "", false)
	wantPage(t, ix, asked{"", "g", at(5, 0, 0), 2}, []api.Item{c, e}, "", false)
	wantPage(t, ix, asked{"d", "", at(5, 0, 0), 1}, []api.Item{e}, "g", true)
	wantPage(t, ix, asked{"", "", at(2, 0, 0), 1}, []api.Item{{Key: "b", Value: "x"}}, "c", true)
	wantPage(t, ix, asked{"c", "", at(2, 0, 0), 1}, []api.Item{c}, "", false)
	wantNoPage(t, ix, asked{"", "", at(0, 0, 0), 0})
	for wall := range 11 {
		for _, limit := range limits(len(ix)) {
			wantPageByDefinition(t, ix, asked{"", "", at(wall, 0, 0), limit})
		}
	}
}

// The letters tell, not the bytes: a broken byte counts as U+FFFD, which precedes U+10000.
func TestEndsThatAreBroken(t *testing.T) {
	e, f, g, h := entry("\ue000", put(1, "e")), entry("\ufffd", put(1, "f")), entry("\ufffd!", put(1, "g")), entry("\U00010000", put(1, "h"))
	ix := []api.Entry{e, f, g, h}
	items := []api.Item{{Key: e.Key, Value: "e"}, {Key: f.Key, Value: "f"}, {Key: g.Key, Value: "g"}, {Key: h.Key, Value: "h"}}
	for _, broken := range []string{"\xff", "\x80", "\xc0", "\ufffd"} {
		wantCut(t, ix, broken, ix[:1], ix[1:])
		wantCut(t, ix, broken+"!", ix[:2], ix[2:])
		wantCut(t, ix, broken+"\xff", ix[:3], ix[3:])
		wantPage(t, ix, asked{broken, "", at(1, 0, 0), 9}, items[1:], "", false)
		wantPage(t, ix, asked{"", broken, at(1, 0, 0), 9}, items[:1], "", false)
		wantPage(t, ix, asked{broken, broken + "!", at(1, 0, 0), 9}, items[1:2], "", false)
		wantPage(t, ix, asked{broken + "\xff", "", at(1, 0, 0), 9}, items[3:], "", false)
	}
	for _, broken := range []string{"\xed\xa0\x80", "\xf0\x90\x80"} {
		wantCut(t, ix, broken, ix[:3], ix[3:])
		wantPage(t, ix, asked{broken, "", at(1, 0, 0), 0}, nil, h.Key, true)
	}
}

// P8.3

func TestPruneOfTheChapter(t *testing.T) {
	ix := chapter()
	for _, mark := range []api.Stamp{{}, at(0, topTick, topNode), at(1, 0, 0), at(1, topTick, topNode)} {
		wantPrune(t, ix, mark, ix)
	}
	for _, mark := range []api.Stamp{at(2, 0, 0), at(2, 0, 1), at(3, 0, 0), at(topWall, topTick, topNode)} {
		wantPrune(t, ix, mark, []api.Entry{ix[0], ix[2]})
	}
}

func TestPruneOfEachChain(t *testing.T) {
	ix := []api.Entry{entry("a", put(2, "p"), put(4, "q"), del(6)), entry("b", del(4)), entry("c", put(1, ""), del(3), put(5, "r")), entry("d", put(8, "s"))}
	a, b, c, d := ix[0], ix[1], ix[2], ix[3]
	late := entry("c", put(5, "r"))
	for wall, want := range [][]api.Entry{
		0: ix, 1: ix, 2: ix,
		3: {a, b, late, d},
		4: {entry("a", put(4, "q"), del(6)), late, d},
		5: {entry("a", put(4, "q"), del(6)), late, d},
		6: {late, d}, 7: {late, d}, 8: {late, d}, 9: {late, d},
	} {
		wantPrune(t, ix, at(wall, 0, 0), want)
		wantPrune(t, ix, at(wall, topTick, topNode), want)
	}
	wantPrune(t, []api.Entry{b}, at(4, 0, 0), nil)
	wantPrune(t, []api.Entry{b}, at(3, topTick, topNode), []api.Entry{b})
	wantPrune(t, []api.Entry{c}, at(3, 0, 0), []api.Entry{late})
	wantPrune(t, nil, at(3, 0, 0), nil)
	wantPrune(t, []api.Entry{}, at(3, 0, 0), nil)
}

func TestPruneOfEachLength(t *testing.T) {
	for _, n := range []int{1, 2, 3, 63, 64} {
		ix, all := ofLength(n), []api.Entry(nil)
		for i := range n {
			all = append(all, entry(numbered(i), put(1, "x"), del(4)))
		}
		wantPrune(t, all, at(3, topTick, topNode), all)
		wantPrune(t, all, at(4, 0, 0), nil)
		for i := range n {
			one := replaced(all, i, entry(numbered(i), put(4, "y")))
			wantPrune(t, one, at(4, 0, 0), one[i:i+1])
		}
		for wall := range 9 {
			wantPrune(t, ix, at(wall, 0, 0), pruned(ix, at(wall, 0, 0)))
		}
	}
}

func TestCutOfTheChapter(t *testing.T) {
	ix := chapter()
	for i, ends := range [][]string{{"", "\x00", " ", "A", "`~", "a"}, {"a\x00", "a ", "a!", "aa", "b"}, {"b\x00", "bb", "b\xff", "c"}, {"c\x00", "cc", "d", "~", "\x7f", "\xff", "\U0010ffff", strings.Repeat("z", 40)}} {
		for _, at := range ends {
			wantCut(t, ix, at, ix[:i], ix[i:])
		}
	}
	for _, at := range []string{"", "a", "\xff", "a b"} {
		wantCut(t, nil, at, nil, nil)
		wantCut(t, []api.Entry{}, at, nil, nil)
	}
}

func TestCutAtEachKey(t *testing.T) {
	for _, n := range []int{1, 2, 3, 63, 64} {
		ix := ofLength(n)
		for i, e := range ix {
			for _, at := range []string{e.Key, numbered(2*i + 1), numbered(2*i) + "!", numbered(2*i) + " "} {
				wantCut(t, ix, at, ix[:i], ix[i:])
			}
			for _, at := range []string{e.Key + "!", e.Key + "\x00", numbered(2*i + 3)} {
				wantCut(t, ix, at, ix[:i+1], ix[i+1:])
			}
		}
		wantCut(t, ix, "", nil, ix)
		wantCut(t, ix, "z", ix, nil)
	}
}

func TestJoinOfWhatFollows(t *testing.T) {
	ix := ofLength(topEntries)
	for i := range topEntries + 1 {
		wantJoin(t, ix[:i], ix[i:], ix, api.OK)
	}
	a, b := entry("a", put(1, "x")), entry("b", put(1, "x"))
	wantJoin(t, nil, nil, nil, api.OK)
	wantJoin(t, []api.Entry{}, []api.Entry{a}, []api.Entry{a}, api.OK)
	wantJoin(t, []api.Entry{a}, []api.Entry{}, []api.Entry{a}, api.OK)
	wantJoin(t, []api.Entry{a}, []api.Entry{b}, []api.Entry{a, b}, api.OK)
	wantJoin(t, []api.Entry{a}, []api.Entry{entry("a!", del(0))}, []api.Entry{a, entry("a!", del(0))}, api.OK)
	for i, k := range goodKeys {
		for _, before := range goodKeys[:i] {
			d, e := entry(before, del(1)), entry(k, put(1, "x"))
			wantJoin(t, []api.Entry{d}, []api.Entry{e}, []api.Entry{d, e}, api.OK)
			wantNoJoin(t, []api.Entry{e}, []api.Entry{d}, api.ErrRange)
		}
		wantNoJoin(t, []api.Entry{entry(k, put(1, "x"))}, []api.Entry{entry(k, put(2, "y"))}, api.ErrRange)
	}
}

func TestJoinOfWhatDoesNotFollow(t *testing.T) {
	ix := ofLength(12)
	for i := range ix {
		for j := i + 1; j <= len(ix); j++ {
			a := ix[i:j]
			// b begins at, ahead of, or within a; where it follows, it joins.
			for m := range ix {
				for n := m + 1; n <= len(ix); n++ {
					if b := ix[m:n]; m < j {
						wantNoJoin(t, a, b, api.ErrRange)
					} else {
						wantJoin(t, a, b, slices.Concat(a, b), api.OK)
					}
				}
			}
		}
	}
	// Those of each second key lie between each other.
	a, b := []api.Entry{ix[0], ix[2], ix[4]}, []api.Entry{ix[1], ix[3], ix[5]}
	wantNoJoin(t, a, b, api.ErrRange)
	wantNoJoin(t, b, a, api.ErrRange)
	// One key of a alone, or one of b, is out of place.
	wantNoJoin(t, []api.Entry{ix[0], ix[9]}, []api.Entry{ix[3], ix[10]}, api.ErrRange)
	wantNoJoin(t, []api.Entry{ix[2], ix[3]}, []api.Entry{ix[1], ix[10]}, api.ErrRange)
}

func TestJoinOfTooMany(t *testing.T) {
	ix := ofLength(2 * topEntries)
	for i := 1; i <= topEntries; i++ {
		wantNoJoin(t, ix[:i], ix[i:topEntries+1], api.ErrFull)
		wantJoin(t, ix[:i], ix[i:topEntries], ix[:topEntries], api.OK)
	}
	wantNoJoin(t, ix[:64], ix[64:], api.ErrFull)
	wantNoJoin(t, ix[64:], ix[:64], api.ErrRange)
	wantNoJoin(t, ix[:64], ix[63:64], api.ErrRange)
	wantNoJoin(t, ix[:64], ix[:64], api.ErrRange)
	wantNoJoin(t, ix[1:65], ix[:1], api.ErrRange)
	wantNoJoin(t, ix[:65], nil, api.ErrArg)
	wantNoJoin(t, nil, ix[:65], api.ErrArg)
	wantNoJoin(t, ix[64:], ix[:65], api.ErrArg)
	wantNoJoin(t, ix[:65], ix[:64], api.ErrArg)
}

func TestTheOrderOfJoinsErrors(t *testing.T) {
	full := ofLength(topEntries)
	for _, bad := range wrongAt(full, topEntries/2) {
		for _, other := range [][]api.Entry{nil, full, full[3:4], {entry("!", put(1, "x"))}, {entry("z", put(1, "x"))}} {
			wantNoJoin(t, bad, other, api.ErrArg)
			wantNoJoin(t, other, bad, api.ErrArg)
		}
	}
}

// P8.1 to P8.3

// eachIndex calls f with all indexes of at most n of these entries, valid or not.
func eachIndex(entries []api.Entry, n int, f func(ix []api.Entry)) {
	var grow func(ix []api.Entry)
	grow = func(ix []api.Entry) {
		f(ix)
		if len(ix) == n {
			return
		}
		for _, e := range entries {
			grow(append(slices.Clip(ix), e))
		}
	}
	grow(nil)
}

// wantAllByDefinition holds what is asked of ix against the chapter's words, at these strings and stamps.
func wantAllByDefinition(t *testing.T, ix []api.Entry, strings []string, stamps []api.Stamp, v api.Version) {
	t.Helper()
	wantRight(t, ix, valid(ix))
	for _, s := range stamps {
		wantPrune(t, ix, s, pruned(ix, s))
	}
	for i, k := range strings {
		a, b := cut(ix, k)
		wantCut(t, ix, k, a, b)
		for _, s := range stamps {
			found, ok := readIn(ix, k, s)
			wantRead(t, ix, k, s, found, ok)
			v.At = s
			d, err := putIn(ix, k, v)
			wantPut(t, ix, k, v, d, err)
			for _, limit := range []int{-1, 0, 1, 2, len(ix), len(ix) + 1} {
				wantPageByDefinition(t, ix, asked{k, "", s, limit})
				wantPageByDefinition(t, ix, asked{"", k, s, limit})
				wantPageByDefinition(t, ix, asked{strings[(i+3)%len(strings)], k, s, limit})
				wantPageByDefinition(t, ix, asked{k, strings[(i+1)%len(strings)], s, limit})
			}
		}
	}
}

func TestShortIndexesByDefinition(t *testing.T) {
	var entries []api.Entry
	for _, k := range []string{"a", "ab", "b", "\ufffd", "\U00010000"} {
		entries = append(entries, entry(k, put(1, "x")), entry(k, put(1, "y"), del(2)))
	}
	entries = append(entries, entry("a", del(1), put(2, "z")), entry("b", del(1)), entry("b"), entry("c", put(-1, "x")), entry("", put(1, "x")), entry("a ", put(1, "x")), entry("\xff", put(1, "x")))
	stamps := []api.Stamp{at(0, 9, 9), at(1, 0, 0), at(2, 0, 1)}
	ends := []string{"", "a", "a ", "ab", "b", "b!", "c", "\xff", "\ufffd", "\ufffd!", "\U00010000", "\U0010ffff"}
	eachIndex(entries, 3, func(ix []api.Entry) {
		if !valid(ix) {
			wantAllByDefinition(t, ix, ends[1:2], stamps[1:2], put(0, "n"))
			return
		}
		wantAllByDefinition(t, ix, ends, stamps, put(0, "n"))
	})
}

func TestShortJoinsByDefinition(t *testing.T) {
	var all [][]api.Entry
	entries := []api.Entry{entry("a", put(1, "x")), entry("ab", put(1, "x"), del(2)), entry("b", del(1)), entry("\ufffd", put(3, "")), entry("\U00010000", put(1, "y")), entry("b"), entry("\xff", put(1, "x"))}
	eachIndex(entries, 2, func(ix []api.Entry) { all = append(all, ix) })
	for _, a := range all {
		for _, b := range all {
			want, err := joined(a, b)
			wantJoin(t, a, b, want, err)
		}
	}
}

// dice gives numbers below n in an order that is the same each time.
type dice uint64

func (d *dice) below(n int) int {
	*d = *d*6364136223846793005 + 1442695040888963407
	return int(uint64(*d) >> 33 % uint64(n))
}

// word is a key of few letters.
func (d *dice) word() string {
	letters := []string{"a", "b", "~", "%", "\u00e9", "\u4e16", "\ufffd", "\U00010000"}
	k := letters[d.below(len(letters))]
	for d.below(3) > 0 && len(k) <= topKey-4 {
		k += letters[d.below(len(letters))]
	}
	return k
}

// stamp is one of few stamps.
func (d *dice) stamp() api.Stamp {
	return at(d.below(5), d.below(3), d.below(3))
}

// chain is a valid chain of at most n versions, but of one at least.
func (d *dice) chain(n int) []api.Version {
	var stamps []api.Stamp
	for range 1 + d.below(n) {
		stamps = append(stamps, d.stamp())
	}
	slices.SortFunc(stamps, order)
	var c []api.Version
	for _, s := range slices.Compact(stamps) {
		if d.below(3) == 0 {
			c = append(c, gone(s))
		} else {
			c = append(c, with(s, strings.Repeat("v", d.below(topValue+1))))
		}
	}
	return c
}

// mixed is a valid index of n entries.
func (d *dice) mixed(n int) []api.Entry {
	var keys []string
	for len(keys) < n {
		if k := d.word(); !slices.Contains(keys, k) {
			keys = append(keys, k)
		}
	}
	slices.SortFunc(keys, keyOrder)
	var ix []api.Entry
	for _, k := range keys {
		ix = append(ix, api.Entry{Key: k, Chain: d.chain(5)})
	}
	return ix
}

// any is a string at, beside or far from a key of ix.
func (d *dice) any(ix []api.Entry) string {
	if len(ix) == 0 || d.below(4) == 0 {
		return d.word()
	}
	l := beside(ix[d.below(len(ix))].Key)
	return l[d.below(len(l))]
}

func TestMixedIndexesByDefinition(t *testing.T) {
	for n := range topEntries + 1 {
		d := dice(n)
		ix := d.mixed(n)
		for range 2 {
			ends := []string{d.any(ix), d.any(ix), d.any(ix), d.any(ix)}
			wantAllByDefinition(t, ix, ends, []api.Stamp{d.stamp(), d.stamp()}, put(0, "new"))
			a, b := ix[:d.below(n+1)], ix[d.below(n+1):]
			want, err := joined(a, b)
			wantJoin(t, a, b, want, err)
		}
		for i := range n {
			for j := range i {
				e := slices.Clone(ix)
				e[i].Key, e[j].Key = e[j].Key, e[i].Key
				wantRight(t, e, false)
				e[i].Key = e[j].Key
				wantRight(t, e, false)
			}
		}
	}
}

// P8.4

// pages are the keys in lo to hi that are alive at s, in pages of limit keys.
func pages(t *testing.T, ix []api.Entry, lo, hi string, s api.Stamp, limit int) []api.Item {
	t.Helper()
	var all []api.Item
	for {
		items, next, more := index.Page(ix, lo, hi, s, limit)
		all = append(all, items...)
		if !more {
			return all
		}
		if len(items) != limit {
			t.Fatalf("Page(%s, %q, %q, %v, %d) has %d items, and more", brief(ix), lo, hi, s, limit, len(items))
		}
		lo = next
	}
}

func TestConsecutivePages(t *testing.T) {
	for n := range 30 {
		d := dice(3000 + n)
		ix := d.mixed(n)
		for range 20 {
			lo, hi, s := d.any(ix), d.any(ix), d.stamp()
			for _, q := range []asked{{"", "", s, 0}, {lo, "", s, 0}, {"", hi, s, 0}, {lo, hi, s, 0}} {
				large, _, more := index.Page(ix, q.lo, q.hi, q.s, n)
				if more {
					t.Errorf("Page(%s, %+v) with limit %d has more", brief(ix), q, n)
				}
				for limit := 1; limit <= n+1; limit++ {
					if all := pages(t, ix, q.lo, q.hi, q.s, limit); !slices.Equal(all, large) {
						t.Errorf("the pages of %s from %q to %q at %v, with limit %d, are %v, want %v", brief(ix), q.lo, q.hi, q.s, limit, all, large)
					}
				}
			}
		}
	}
}

func TestCutFollowedByJoin(t *testing.T) {
	for n := range topEntries + 1 {
		d := dice(4000 + n)
		ix := d.mixed(n)
		for range 50 {
			at := d.any(ix)
			a, b := index.Cut(ix, at)
			if !index.Right(a) || !index.Right(b) {
				t.Errorf("Cut(%s, %q) = %s, %s", brief(ix), at, brief(a), brief(b))
			}
			if e, err := index.Join(a, b); !same(e, ix) || err != api.OK {
				t.Errorf("%s, cut at %q and joined again, is %s, %d", brief(ix), at, brief(e), err)
			}
			if len(a) > 0 && len(b) > 0 {
				wantNoJoin(t, b, a, api.ErrRange)
			}
		}
	}
}

// wantTheSameFrom asks that ix and e have the same values at s, page by page and key by key.
func wantTheSameFrom(t *testing.T, ix, e []api.Entry, s api.Stamp) {
	t.Helper()
	for _, limit := range []int{0, 1, 3, math.MaxInt} {
		items, next, more := index.Page(ix, "", "", s, limit)
		if l, n, m := index.Page(e, "", "", s, limit); !slices.Equal(l, items) || n != next || m != more {
			t.Errorf("%s, pruned, has the page %v, %q, %t at %v, and no longer %v, %q, %t", brief(ix), l, n, m, s, items, next, more)
		}
	}
	for _, f := range ix {
		v, ok := index.Read(ix, f.Key, s)
		w, okNow := index.Read(e, f.Key, s)
		if wasValue, isValue := ok && !v.Gone, okNow && !w.Gone; wasValue != isValue || wasValue && v != w {
			t.Errorf("%s, pruned, has %v, %t for %q at %v, and no longer %v, %t", brief(ix), w, okNow, f.Key, s, v, ok)
		}
	}
}

func TestPrunedIndexesHaveTheSameValues(t *testing.T) {
	var stamps []api.Stamp
	for wall := range 5 {
		for tick := range 3 {
			for node := range 3 {
				stamps = append(stamps, at(wall, tick, node))
			}
		}
	}
	for n := range 15 {
		d := dice(5000 + n)
		ix := d.mixed(n)
		for i, mark := range stamps {
			e := index.Prune(ix, mark)
			if !index.Right(e) {
				t.Errorf("Prune(%s, %v) = %s, which is not valid", brief(ix), mark, brief(e))
			}
			for _, s := range stamps[i:] {
				wantTheSameFrom(t, ix, e, s)
			}
			wantPrune(t, e, mark, e)
			wantPrune(t, e, stamps[i/2], e)
			later := stamps[(i+len(stamps))/2]
			wantPrune(t, e, later, index.Prune(ix, later))
		}
	}
}

// A full index, and a full chain, have room again once they are pruned; a key that is pruned away is put anew.
func TestPutAfterPrune(t *testing.T) {
	full := ofLength(topEntries)
	full[0].Chain = chainOf(topVersions)
	wantNoPut(t, full, "z", put(1, "x"), api.ErrFull)
	wantNoPut(t, full, numbered(2), put(200, "x"), api.ErrFull)
	e := index.Prune(full, at(4, 0, 0))
	if len(e) != topEntries-topEntries/4 || len(e[0].Chain) != topVersions-2 {
		t.Fatalf("Prune has left %s", brief(e))
	}
	wantPut(t, e, "z", put(1, "x"), slices.Concat(e, []api.Entry{entry("z", put(1, "x"))}), api.OK)
	wantPut(t, e, numbered(2), put(200, "x"), replaced(e, 0, api.Entry{Key: numbered(2), Chain: append(slices.Clone(e[0].Chain), put(200, "x"))}), api.OK)
	wantNoPut(t, full, full[1].Key, put(2, "x"), api.ErrRange)
	wantNoRead(t, e, full[1].Key, at(9, 0, 0))
	wantPut(t, e, full[1].Key, put(2, "x"), slices.Insert(slices.Clone(e), 1, entry(full[1].Key, put(2, "x"))), api.OK)
}

// What is put in whatever order is the same index, and each version can be read.
func TestManyPuts(t *testing.T) {
	for n := range 20 {
		d := dice(6000 + n)
		want := d.mixed(3 * n)
		var ix []api.Entry
		for rest := copied(want); len(rest) > 0; {
			i := d.below(len(rest))
			k, v := rest[i].Key, rest[i].Chain[0]
			if rest[i].Chain = rest[i].Chain[1:]; len(rest[i].Chain) == 0 {
				rest = slices.Delete(rest, i, i+1)
			}
			var err api.Errno
			if ix, err = index.Put(ix, k, v); err != api.OK || !index.Right(ix) {
				t.Fatalf("Put of %q, %v gives %s, %d", k, v, brief(ix), err)
			}
			wantRead(t, ix, k, v.At, v, true)
			wantRead(t, ix, k, at(topWall, topTick, topNode), v, true)
		}
		if !same(ix, want) {
			t.Errorf("the puts give %s, want %s", brief(ix), brief(want))
		}
	}
}

// R1

// Indexes that are made of one do not get in each other's way.
func TestPutTwiceToOneIndex(t *testing.T) {
	ix := make([]api.Entry, 3, 100)
	copy(ix, chapter())
	for i := range ix {
		ix[i].Chain = append(make([]api.Version, 0, 100), ix[i].Chain...)
	}
	a, _ := index.Put(ix, "b", put(8, "p"))
	b, _ := index.Put(ix, "b", put(9, "q"))
	c, _ := index.Put(a, "d", put(1, "r"))
	d, _ := index.Put(a, "e", put(1, "s"))
	e, f := index.Cut(ix, "c")
	g, _ := index.Put(e, "bb", put(1, "t"))
	h, _ := index.Put(f, "c", put(5, "u"))
	j, _ := index.Join(e, f)
	k, _ := index.Put(j, "a", put(7, "w"))
	w := chapter()
	p, q := entry("b", del(2), put(8, "p")), entry("b", del(2), put(9, "q"))
	for _, x := range []struct{ ix, want []api.Entry }{
		{ix, w}, {a, replaced(w, 1, p)}, {b, replaced(w, 1, q)},
		{c, append(replaced(w, 1, p), entry("d", put(1, "r")))}, {d, append(replaced(w, 1, p), entry("e", put(1, "s")))},
		{e, w[:2]}, {f, w[2:]}, {g, slices.Concat(w[:2], []api.Entry{entry("bb", put(1, "t"))})}, {h, []api.Entry{entry("c", put(3, "z"), put(5, "u"))}},
		{j, w}, {k, replaced(w, 0, entry("a", put(1, "x"), put(7, "w")))},
	} {
		if !same(x.ix, x.want) {
			t.Errorf("%v has become %v", x.want, x.ix)
		}
	}
	if behind := ix[:4][3]; behind.Key != "" || behind.Chain != nil {
		t.Errorf("%v has been written behind the index's end", behind)
	}
	if behind := ix[1].Chain[:2][1]; behind != (api.Version{}) {
		t.Errorf("%v has been written behind a chain's end", behind)
	}
}

// A caller's entries may share a chain, or its memory; what comes back shares none.
func TestEntriesThatShareAChain(t *testing.T) {
	c := slices.Concat(chainOf(4), chainOf(4))
	ix := []api.Entry{{Key: "a", Chain: c[:4]}, {Key: "b", Chain: c[:4]}, {Key: "c", Chain: c[4:]}, {Key: "d", Chain: c[:2]}}
	before := copied(ix)
	d, _ := index.Put(ix, "e", put(1, "x"))
	wantApart(t, "Put", d)
	d, _ = index.Put(ix, "b", put(100, "x"))
	wantApart(t, "Put", d)
	wantApart(t, "Prune", index.Prune(ix, at(3, 0, 0)))
	wantApart(t, "Prune", index.Prune(ix, at(0, 0, 0)))
	a, b := index.Cut(ix, "b")
	wantApart(t, "Cut", a, b)
	d, _ = index.Join(ix[:2], ix[2:])
	wantApart(t, "Join", d)
	if !same(ix, before) {
		t.Errorf("%v has become %v", before, ix)
	}
}

// P1, R4

func TestTheSameCallTwice(t *testing.T) {
	v := put(2000, "x")
	for _, ix := range append(badIndexes(), nil, chapter(), ofLength(topEntries-1), ofLength(topEntries)) {
		d, err := index.Put(ix, "b", v)
		if again, errAgain := index.Put(ix, "b", v); !same(again, d) || errAgain != err {
			t.Errorf("Put(%s) differs from call to call", brief(ix))
		}
		if index.Right(ix) != index.Right(ix) || !same(index.Prune(ix, v.At), index.Prune(ix, v.At)) {
			t.Errorf("Right or Prune of %s differs from call to call", brief(ix))
		}
		found, ok := index.Read(ix, "b", v.At)
		if again, okAgain := index.Read(ix, "b", v.At); again != found || okAgain != ok {
			t.Errorf("Read(%s) differs from call to call", brief(ix))
		}
		items, next, more := index.Page(ix, "", "", v.At, 2)
		if l, n, m := index.Page(ix, "", "", v.At, 2); !slices.Equal(l, items) || n != next || m != more {
			t.Errorf("Page(%s) differs from call to call", brief(ix))
		}
		a, b := index.Cut(ix, "b")
		e, errJoin := index.Join(a, b)
		if a2, b2 := index.Cut(ix, "b"); !same(a2, a) || !same(b2, b) {
			t.Errorf("Cut(%s) differs from call to call", brief(ix))
		}
		if again, errAgain := index.Join(a, b); !same(again, e) || errAgain != errJoin {
			t.Errorf("Join of %s differs from call to call", brief(ix))
		}
	}
}
