package chain_test

import (
	"fmt"
	"math"
	"slices"
	"strings"
	"testing"

	"stratigraph/api"
	"stratigraph/chain"
)

// The greatest numbers that are allowed, written out.
const (
	topWall     = 1099511627776
	topTick     = 1048576
	topNode     = 255
	topVersions = 64
	topValue    = 16
)

// badStamps are stamps that are not valid, in one of their numbers or in several.
var badStamps = []api.Stamp{
	{Wall: -1}, {Wall: topWall + 1}, {Wall: math.MinInt}, {Wall: math.MaxInt},
	{Tick: -1}, {Tick: topTick + 1}, {Tick: math.MinInt}, {Tick: math.MaxInt},
	{Node: -1}, {Node: topNode + 1}, {Node: math.MinInt}, {Node: math.MaxInt},
	{Wall: 5, Tick: 7, Node: -1}, {Wall: 5, Tick: -1, Node: 2}, {Wall: -1, Tick: 7, Node: 2},
	{Wall: 5, Tick: 7, Node: 256}, {Wall: 5, Tick: topTick + 1, Node: 2}, {Wall: topWall + 1, Tick: 7, Node: 2},
	{Wall: -1, Tick: -1, Node: -1}, {Wall: math.MaxInt, Tick: math.MinInt, Node: math.MaxInt},
}

// longValues are values of more bytes than are allowed; the last ones have few enough letters.
var longValues = []string{
	strings.Repeat("a", topValue+1), strings.Repeat("a", topValue+2), strings.Repeat("a", 1<<16),
	strings.Repeat("\x00", topValue+1), strings.Repeat("\xff", topValue+1), strings.Repeat(" ", topValue+1),
	"\u00e9" + strings.Repeat("a", topValue-1), strings.Repeat("\u00e9", topValue/2) + "a", strings.Repeat("\U0001f600", 5),
}

// goodValues are values at and below the greatest length, of any bytes.
var goodValues = []string{
	"", "a", " ", "%", "\x00", "\xff", "\n", "a b", strings.Repeat("a", topValue-1), strings.Repeat("a", topValue),
	strings.Repeat("\x00", topValue), strings.Repeat("\xff", topValue), strings.Repeat("\u00e9", topValue/2), strings.Repeat("\U0001f600", topValue/4),
}

func at(wall, tick, node int) api.Stamp {
	return api.Stamp{Wall: wall, Tick: tick, Node: node}
}

func with(s api.Stamp, value string) api.Version {
	return api.Version{At: s, Value: value}
}

func gone(s api.Stamp) api.Version {
	return api.Version{At: s, Gone: true}
}

// put and del are versions at a Wall alone.
func put(wall int, value string) api.Version { return with(at(wall, 0, 0), value) }
func del(wall int) api.Version               { return gone(at(wall, 0, 0)) }

// chapter is the chain of the chapter's examples.
func chapter() []api.Version {
	return []api.Version{put(1, "a"), del(3), put(5, "b")}
}

// ofLength is a valid chain of n versions, at the even Walls from 2 on; each third is Gone, and some values are empty.
func ofLength(n int) []api.Version {
	var c []api.Version
	for i := range n {
		switch i % 3 {
		case 1:
			c = append(c, del(2*i+2))
		default:
			c = append(c, put(2*i+2, strings.Repeat("v", i%7)))
		}
	}
	return c
}

// badVersions are versions that are not valid, each in one way or in several, at Wall where the stamp is not what is wrong.
func badVersions(wall int) []api.Version {
	var l []api.Version
	for _, s := range badStamps {
		l = append(l, with(s, ""), with(s, "a"), gone(s))
	}
	for _, wrong := range []api.Stamp{at(wall, -1, 0), at(wall, topTick+1, 0), at(wall, 0, -1), at(wall, 0, topNode+1)} {
		l = append(l, with(wrong, "a"), gone(wrong))
	}
	for _, value := range longValues {
		l = append(l, put(wall, value), api.Version{At: at(wall, 0, 0), Gone: true, Value: value})
	}
	for _, value := range goodValues[1:] {
		l = append(l, api.Version{At: at(wall, 0, 0), Gone: true, Value: value})
	}
	return append(l, api.Version{At: at(wall, 0, -1), Gone: true, Value: longValues[0]})
}

// badChains are chains that are not valid, each for one reason.
func badChains() [][]api.Version {
	l := [][]api.Version{ofLength(topVersions + 1), ofLength(topVersions + 2), ofLength(1000), {put(3, "a"), put(3, "a")}, {put(3, "a"), put(2, "b")}}
	for _, n := range []int{1, 2, 3, 7, topVersions} {
		for _, i := range []int{0, n / 2, n - 1} {
			for _, v := range badVersions(2*i + 2) {
				l = append(l, replaced(ofLength(n), i, v))
			}
		}
	}
	return l
}

func replaced(c []api.Version, i int, v api.Version) []api.Version {
	c[i] = v
	return c
}

// validStamp reports whether s is valid, in the words of layer 5.
func validStamp(s api.Stamp) bool {
	switch {
	case s.Wall < 0, s.Tick < 0, s.Node < 0:
		return false
	case s.Wall > topWall, s.Tick > topTick, s.Node > topNode:
		return false
	}
	return true
}

// order compares by Wall, then by Tick, then by Node.
func order(a, b api.Stamp) int {
	return slices.Compare([]int{a.Wall, a.Tick, a.Node}, []int{b.Wall, b.Tick, b.Node})
}

// validVersion and valid are the chapter's definitions.
func validVersion(v api.Version) bool {
	if v.Gone && v.Value != "" {
		return false
	}
	return validStamp(v.At) && len(v.Value) <= topValue
}

func valid(c []api.Version) bool {
	if len(c) > topVersions {
		return false
	}
	for i := range c {
		if !validVersion(c[i]) {
			return false
		}
		for j := range i {
			if order(c[j].At, c[i].At) >= 0 {
				return false
			}
		}
	}
	return true
}

// place is the place of the version of c at s, or -1: the last one that is not later.
func place(c []api.Version, s api.Stamp) int {
	for i := len(c) - 1; i >= 0; i-- {
		if order(c[i].At, s) <= 0 {
			return i
		}
	}
	return -1
}

// added is Add in the chapter's words.
func added(c []api.Version, v api.Version) ([]api.Version, api.Errno) {
	if !valid(c) || !validVersion(v) {
		return nil, api.ErrArg
	}
	if len(c) > 0 && order(v.At, c[len(c)-1].At) <= 0 {
		return nil, api.ErrRange
	}
	if len(c) == topVersions {
		return nil, api.ErrFull
	}
	return append(slices.Clone(c), v), api.OK
}

// versionAt is At in the chapter's words.
func versionAt(c []api.Version, s api.Stamp) (api.Version, bool) {
	if i := place(c, s); valid(c) && i >= 0 {
		return c[i], true
	}
	return api.Version{}, false
}

// valueAt is Value in the chapter's words.
func valueAt(c []api.Version, s api.Stamp) (string, bool) {
	if v, ok := versionAt(c, s); ok && !v.Gone {
		return v.Value, true
	}
	return "", false
}

// pruned is Prune in the chapter's words.
func pruned(c []api.Version, mark api.Stamp) []api.Version {
	if !valid(c) {
		return nil
	}
	atMark := place(c, mark)
	var d []api.Version
	for i, v := range c {
		if i > atMark || i == atMark && !v.Gone {
			d = append(d, v)
		}
	}
	return d
}

// brief is a chain in few enough letters to be read.
func brief(c []api.Version) string {
	return fmt.Sprintf("%d versions %.300s", len(c), fmt.Sprint(c))
}

// lent is a chain whose slice has room behind its end, with what lies beside it, as a caller may hold it.
type lent struct {
	before, all, c []api.Version
}

func lend(c []api.Version) lent {
	other := api.Version{At: at(7, 7, 7), Value: "another's"}
	before := slices.Concat([]api.Version{other}, c, []api.Version{other, other, other})
	all := slices.Clone(before)
	return lent{before, all, all[1 : 1+len(c)]}
}

// wantKept asks that the caller's memory is as it was, even when what came back is written to and appended to.
func (l lent) wantKept(t *testing.T, call string, d []api.Version) {
	t.Helper()
	if !slices.Equal(l.all, l.before) {
		t.Errorf("%s has changed %v to %v", call, l.before, l.all)
	}
	mine := api.Version{Value: "mine"}
	// The append comes second, since it may move what it is given.
	for i := range d {
		d[i] = mine
	}
	_ = append(d, mine)
	if !slices.Equal(l.all, l.before) {
		t.Errorf("%s hands out the caller's memory", call)
	}
}

func wantRight(t *testing.T, c []api.Version, want bool) {
	t.Helper()
	l := lend(c)
	if chain.Right(l.c) != want {
		t.Errorf("Right(%s) = %t", brief(c), !want)
	}
	l.wantKept(t, "Right", nil)
}

func wantAdd(t *testing.T, c []api.Version, v api.Version, want []api.Version, wantErr api.Errno) {
	t.Helper()
	l := lend(c)
	d, err := chain.Add(l.c, v)
	if !slices.Equal(d, want) || err != wantErr {
		t.Errorf("Add(%s, %v) = %v, %d, want %v, %d", brief(c), v, d, err, want, wantErr)
	}
	l.wantKept(t, "Add", d)
}

func wantNoAdd(t *testing.T, c []api.Version, v api.Version, wantErr api.Errno) {
	t.Helper()
	wantAdd(t, c, v, nil, wantErr)
}

// wantAt asks for the version at s, and for its value where it has one.
func wantAt(t *testing.T, c []api.Version, s api.Stamp, want api.Version) {
	t.Helper()
	l := lend(c)
	if v, ok := chain.At(l.c, s); v != want || !ok {
		t.Errorf("At(%s, %v) = %v, %t, want %v", brief(c), s, v, ok, want)
	}
	if value, ok := chain.Value(l.c, s); value != want.Value || ok == want.Gone {
		t.Errorf("Value(%s, %v) = %q, %t, want that of %v", brief(c), s, value, ok, want)
	}
	l.wantKept(t, "At", nil)
}

func wantNoAt(t *testing.T, c []api.Version, s api.Stamp) {
	t.Helper()
	l := lend(c)
	if v, ok := chain.At(l.c, s); v != (api.Version{}) || ok {
		t.Errorf("At(%s, %v) = %v, %t, want none", brief(c), s, v, ok)
	}
	if value, ok := chain.Value(l.c, s); value != "" || ok {
		t.Errorf("Value(%s, %v) = %q, %t, want none", brief(c), s, value, ok)
	}
	l.wantKept(t, "At", nil)
}

func wantPrune(t *testing.T, c []api.Version, mark api.Stamp, want []api.Version) {
	t.Helper()
	l := lend(c)
	d := chain.Prune(l.c, mark)
	if !slices.Equal(d, want) {
		t.Errorf("Prune(%s, %v) = %v, want %v", brief(c), mark, d, want)
	}
	l.wantKept(t, "Prune", d)
}

// wantByDefinition holds what is read of c at s against the chapter's words.
func wantByDefinition(t *testing.T, c []api.Version, s api.Stamp) {
	t.Helper()
	if v, ok := versionAt(c, s); ok {
		wantAt(t, c, s, v)
	} else {
		wantNoAt(t, c, s)
	}
	wantPrune(t, c, s, pruned(c, s))
}

// neighbours are the stamps that differ from s by at most 1 in each number.
func neighbours(s api.Stamp) []api.Stamp {
	var l []api.Stamp
	for wall := -1; wall <= 1; wall++ {
		for tick := -1; tick <= 1; tick++ {
			for node := -1; node <= 1; node++ {
				l = append(l, at(s.Wall+wall, s.Tick+tick, s.Node+node))
			}
		}
	}
	return l
}

// moments are stamps around each version of c, before and behind all of them, and stamps that are not valid.
func moments(c []api.Version) []api.Stamp {
	l := slices.Concat(badStamps, []api.Stamp{{}, at(0, 0, 1), at(topWall, topTick, topNode)})
	for _, v := range c {
		l = append(l, neighbours(v.At)...)
	}
	return l
}

// P7.1

func TestRightAtEachLength(t *testing.T) {
	for _, x := range []struct {
		n    int
		want bool
	}{{0, true}, {1, true}, {2, true}, {3, true}, {63, true}, {64, true}, {65, false}, {66, false}, {128, false}, {1 << 16, false}} {
		wantRight(t, ofLength(x.n), x.want)
	}
	if !chain.Right(nil) || !chain.Right([]api.Version{}) {
		t.Error("a chain of no versions is not valid")
	}
}

func TestRightOfOneVersion(t *testing.T) {
	for _, s := range []api.Stamp{{}, {Wall: 1}, {Tick: 1}, {Node: 1}, {Wall: topWall}, {Tick: topTick}, {Node: topNode}, {Wall: topWall, Tick: topTick, Node: topNode}} {
		wantRight(t, []api.Version{gone(s)}, true)
		for _, value := range goodValues {
			wantRight(t, []api.Version{with(s, value)}, true)
		}
	}
	for _, v := range badVersions(5) {
		wantRight(t, []api.Version{v}, false)
	}
}

func TestRightWithOneWrongVersion(t *testing.T) {
	for _, n := range []int{1, 2, 3, 7, topVersions - 1, topVersions} {
		for _, i := range []int{0, n / 2, n - 1} {
			wall := 2*i + 2
			for _, v := range badVersions(wall) {
				wantRight(t, replaced(ofLength(n), i, v), false)
			}
			// It is only what is wrong about them that tells.
			wantRight(t, replaced(ofLength(n), i, gone(at(wall, topTick, topNode))), true)
			for _, value := range goodValues {
				wantRight(t, replaced(ofLength(n), i, put(wall, value)), true)
			}
		}
	}
}

// pairs are stamps of which the second is later, in one number alone or in several.
var pairs = [][2]api.Stamp{
	{at(5, 6, 7), at(6, 6, 7)},
	{at(5, 6, 7), at(5, 7, 7)},
	{at(5, 6, 7), at(5, 6, 8)},
	{at(5, 6, 7), at(6, 0, 0)},
	{at(5, 6, 7), at(5, 7, 0)},
	{at(5, 6, 7), at(6, 5, 9)},
	{at(9, 1, 2), at(10, 0, 0)},
	{at(1, 9, 2), at(1, 10, 0)},
	{at(1, 2, 9), at(1, 2, 10)},
	{at(0, 0, 0), at(0, 0, 1)},
	{at(0, 0, topNode), at(0, 1, 0)},
	{at(0, topTick, topNode), at(1, 0, 0)},
	{at(topWall-1, topTick, topNode), at(topWall, 0, 0)},
	{at(topWall, topTick, topNode-1), at(topWall, topTick, topNode)},
}

func TestRightOfRisingStamps(t *testing.T) {
	for _, x := range pairs {
		a, b := x[0], x[1]
		for _, v := range []api.Version{with(a, "a"), gone(a)} {
			for _, w := range []api.Version{with(b, ""), with(b, "a"), gone(b)} {
				wantRight(t, []api.Version{v, w}, true)
				wantRight(t, []api.Version{w, v}, false)
				wantRight(t, []api.Version{v, v}, false)
				wantRight(t, []api.Version{w, w}, false)
				wantRight(t, []api.Version{v, w, w}, false)
				wantRight(t, []api.Version{v, v, w}, false)
				// Not with the first one, but with the one before is each compared.
				wantRight(t, []api.Version{v, w, v}, false)
			}
		}
	}
}

func TestRightOfOnePlaceThatDoesNotRise(t *testing.T) {
	for _, n := range []int{2, 3, 7, topVersions} {
		for _, i := range []int{1, n / 2, n - 1} {
			last := 2 * i
			wantRight(t, replaced(ofLength(n), i, del(last+1)), true)
			wantRight(t, replaced(ofLength(n), i, gone(at(last, 0, 1))), true)
			wantRight(t, replaced(ofLength(n), i, gone(at(last, 1, 0))), true)
			for _, wall := range []int{last, last - 1, 1, 0} {
				wantRight(t, replaced(ofLength(n), i, del(wall)), false)
				wantRight(t, replaced(ofLength(n), i, put(wall, "x")), false)
			}
		}
	}
}

func TestChainsThatAreNotValid(t *testing.T) {
	for _, c := range badChains() {
		wantRight(t, c, false)
		for _, v := range []api.Version{put(0, "a"), put(2000, "a"), del(2000), gone(at(topWall, topTick, topNode)), with(at(-1, 0, 0), "a")} {
			wantNoAdd(t, c, v, api.ErrArg)
		}
		for _, s := range []api.Stamp{{}, at(2, 0, 0), at(9, 0, 0), at(2000, 0, 0), at(topWall, topTick, topNode), at(math.MaxInt, 0, 0), at(math.MinInt, 0, 0)} {
			wantNoAt(t, c, s)
			wantPrune(t, c, s, nil)
		}
	}
}

func TestAddToEachLength(t *testing.T) {
	for n := range topVersions {
		c := ofLength(n)
		for _, v := range []api.Version{put(2*n+1, "x"), put(2*n+1, ""), del(2*n + 1), put(topWall, "x"), gone(at(topWall, topTick, topNode))} {
			wantAdd(t, c, v, slices.Concat(c, []api.Version{v}), api.OK)
		}
		for _, value := range goodValues {
			v := put(2*n+1, value)
			wantAdd(t, c, v, slices.Concat(c, []api.Version{v}), api.OK)
		}
	}
	wantAdd(t, nil, put(0, ""), []api.Version{put(0, "")}, api.OK)
	wantAdd(t, []api.Version{}, del(0), []api.Version{del(0)}, api.OK)
}

func TestAddToFullChains(t *testing.T) {
	for _, v := range []api.Version{put(129, "x"), put(200, ""), del(129), gone(at(128, 0, 1)), with(at(topWall, topTick, topNode), "x")} {
		wantNoAdd(t, ofLength(64), v, api.ErrFull)
		wantNoAdd(t, ofLength(65), v, api.ErrArg)
	}
	wantAdd(t, ofLength(63), put(127, "x"), slices.Concat(ofLength(63), []api.Version{put(127, "x")}), api.OK)
}

func TestAddOfWrongVersions(t *testing.T) {
	for _, n := range []int{0, 1, 2, 63, 64, 65} {
		// Neither the order nor the length is told first.
		for _, wall := range []int{0, 2 * n, 2*n + 1} {
			for _, v := range badVersions(wall) {
				wantNoAdd(t, ofLength(n), v, api.ErrArg)
			}
		}
	}
}

func TestAddOfWhatIsNotLater(t *testing.T) {
	for _, x := range pairs {
		a, b := x[0], x[1]
		for _, c := range [][]api.Version{{with(b, "b")}, {gone(b)}} {
			for _, s := range []api.Stamp{a, b} {
				wantNoAdd(t, c, with(s, "x"), api.ErrRange)
				wantNoAdd(t, c, with(s, ""), api.ErrRange)
				wantNoAdd(t, c, gone(s), api.ErrRange)
			}
			wantNoAdd(t, c, c[0], api.ErrRange)
		}
		for _, c := range [][]api.Version{{with(a, "a")}, {gone(a)}} {
			wantAdd(t, c, with(b, "x"), []api.Version{c[0], with(b, "x")}, api.OK)
			wantAdd(t, c, gone(b), []api.Version{c[0], gone(b)}, api.OK)
		}
		wantNoAdd(t, []api.Version{with(a, "a"), gone(b)}, with(a, "a"), api.ErrRange)
		wantNoAdd(t, []api.Version{with(a, "a"), gone(b)}, with(b, "a"), api.ErrRange)
	}
	for n := 1; n <= topVersions; n++ {
		// Of a full chain, too, it is the order that is told.
		for _, wall := range []int{0, 1, 2, n, 2*n - 1, 2 * n} {
			wantNoAdd(t, ofLength(n), put(wall, "x"), api.ErrRange)
			wantNoAdd(t, ofLength(n), del(wall), api.ErrRange)
		}
	}
	wantNoAdd(t, []api.Version{gone(at(topWall, topTick, topNode))}, gone(at(topWall, topTick, topNode)), api.ErrRange)
}

func TestSeveralWrongArguments(t *testing.T) {
	for _, c := range badChains() {
		for _, v := range []api.Version{with(at(-1, 0, 0), "a"), put(1, longValues[0]), {At: at(2000, 0, 0), Gone: true, Value: "a"}, gone(at(0, 0, 256))} {
			wantNoAdd(t, c, v, api.ErrArg)
		}
		for _, s := range badStamps {
			wantNoAt(t, c, s)
			wantPrune(t, c, s, nil)
		}
	}
}

// P7.2

func TestAtOfTheChapter(t *testing.T) {
	c := chapter()
	wantNoAt(t, c, at(0, 0, 0))
	wantNoAt(t, c, at(0, topTick, topNode))
	wantAt(t, c, at(1, 0, 0), put(1, "a"))
	wantAt(t, c, at(1, 0, 1), put(1, "a"))
	wantAt(t, c, at(2, 0, 0), put(1, "a"))
	wantAt(t, c, at(2, topTick, topNode), put(1, "a"))
	wantAt(t, c, at(3, 0, 0), del(3))
	wantAt(t, c, at(4, 0, 0), del(3))
	wantAt(t, c, at(4, topTick, topNode), del(3))
	wantAt(t, c, at(5, 0, 0), put(5, "b"))
	wantAt(t, c, at(topWall, topTick, topNode), put(5, "b"))
}

func TestAtOfVersionsThatDifferInOneNumber(t *testing.T) {
	for _, x := range pairs {
		a, b := with(x[0], "a"), gone(x[1])
		c := []api.Version{a, b}
		wantAt(t, c, a.At, a)
		wantAt(t, c, b.At, b)
		wantAt(t, c[:1], b.At, a)
		wantNoAt(t, c[1:], a.At)
		for _, s := range moments(c) {
			wantByDefinition(t, c, s)
		}
	}
}

func TestAtOfNoVersions(t *testing.T) {
	for _, s := range moments(nil) {
		wantNoAt(t, nil, s)
		wantNoAt(t, []api.Version{}, s)
	}
}

func TestAtOfEachVersion(t *testing.T) {
	for _, n := range []int{1, 2, 3, 4, 7, 63, 64} {
		c := ofLength(n)
		wantNoAt(t, c, at(0, 0, 0))
		wantNoAt(t, c, at(1, topTick, topNode))
		for i, v := range c {
			for _, s := range []api.Stamp{v.At, at(2*i+2, 0, 1), at(2*i+2, 1, 0), at(2*i+3, 0, 0), at(2*i+3, topTick, topNode)} {
				wantAt(t, c, s, v)
			}
		}
		wantAt(t, c, at(topWall, topTick, topNode), c[n-1])
	}
}

func TestEmptyValuesAreValues(t *testing.T) {
	c := []api.Version{put(1, ""), del(3), put(5, "")}
	for wall, want := range []bool{false, true, true, false, false, true, true} {
		if value, ok := chain.Value(c, at(wall, 0, 0)); value != "" || ok != want {
			t.Errorf("Value at %d = %q, %t", wall, value, ok)
		}
	}
	wantAt(t, c, at(2, 0, 0), put(1, ""))
	wantPrune(t, c, at(2, 0, 0), c)
	wantPrune(t, c, at(3, 0, 0), c[2:])
	wantPrune(t, c, at(6, 0, 0), c[2:])
}

// A stamp that is not valid has its place in the order, too.
func TestAtOfStampsThatAreNotValid(t *testing.T) {
	c := chapter()
	for _, s := range []api.Stamp{at(-1, 0, 0), at(math.MinInt, 9, 9), at(0, topTick+1, 0), at(0, math.MaxInt, 0), at(1, -1, 0), at(1, 0, -1), at(1, math.MinInt, math.MaxInt)} {
		wantNoAt(t, c, s)
		wantPrune(t, c, s, c)
	}
	for _, s := range []api.Stamp{at(1, 0, 256), at(1, topTick+1, 0), at(2, -1, -1), at(3, -1, 0), at(3, 0, -1), at(3, math.MinInt, 0)} {
		wantAt(t, c, s, c[0])
		wantPrune(t, c, s, c)
	}
	for _, s := range []api.Stamp{at(3, 0, 256), at(3, math.MaxInt, 0), at(4, -1, -1), at(5, 0, -1), at(5, -1, 300)} {
		wantAt(t, c, s, c[1])
		wantPrune(t, c, s, c[2:])
	}
	for _, s := range []api.Stamp{at(5, 0, 256), at(5, topTick+1, -1), at(6, -1, 0), at(topWall+1, 0, 0), at(math.MaxInt, math.MinInt, -1)} {
		wantAt(t, c, s, c[2])
		wantPrune(t, c, s, c[2:])
	}
}

// P7.3

func TestPruneOfTheChapter(t *testing.T) {
	c := chapter()
	for wall, rest := range []int{0, 0, 0, 2, 2, 2, 2} {
		wantPrune(t, c, at(wall, 0, 0), c[rest:])
		wantPrune(t, c, at(wall, topTick, topNode), c[rest:])
	}
}

func TestPruneAtGoneVersions(t *testing.T) {
	c := []api.Version{put(2, "a"), put(4, "b"), del(6), put(8, "c"), del(10)}
	for wall, rest := range []int{0, 0, 0, 0, 1, 1, 3, 3, 3, 3, 5, 5} {
		wantPrune(t, c, at(wall, 0, 0), c[rest:])
	}
	// Gone versions ahead of the one at the mark go with all the others, and one behind it stays.
	c = []api.Version{del(2), del(4), put(6, "a"), del(8), del(10)}
	for wall, rest := range []int{0, 0, 1, 1, 2, 2, 2, 2, 4, 4, 5, 5} {
		wantPrune(t, c, at(wall, 0, 0), c[rest:])
	}
}

func TestPruneOfShortChains(t *testing.T) {
	for _, s := range moments(nil) {
		wantPrune(t, nil, s, nil)
		wantPrune(t, []api.Version{}, s, nil)
	}
	for _, mark := range []api.Stamp{at(0, 0, 0), at(4, topTick, topNode), at(5, 6, 6), at(5, 5, 9)} {
		wantPrune(t, []api.Version{gone(at(5, 6, 7))}, mark, []api.Version{gone(at(5, 6, 7))})
		wantPrune(t, []api.Version{with(at(5, 6, 7), "a")}, mark, []api.Version{with(at(5, 6, 7), "a")})
	}
	for _, mark := range []api.Stamp{at(5, 6, 7), at(5, 6, 8), at(5, 7, 0), at(6, 0, 0), at(topWall, topTick, topNode)} {
		wantPrune(t, []api.Version{gone(at(5, 6, 7))}, mark, nil)
		wantPrune(t, []api.Version{with(at(5, 6, 7), "a")}, mark, []api.Version{with(at(5, 6, 7), "a")})
		wantPrune(t, []api.Version{with(at(5, 6, 7), "")}, mark, []api.Version{with(at(5, 6, 7), "")})
	}
}

func TestPruneOfEachLength(t *testing.T) {
	for _, n := range []int{1, 2, 3, 63, 64} {
		c := ofLength(n)
		wantPrune(t, c, at(0, 0, 0), c)
		wantPrune(t, c, at(1, topTick, topNode), c)
		for i, v := range c {
			rest := c[i:]
			if v.Gone {
				rest = c[i+1:]
			}
			for _, mark := range []api.Stamp{v.At, at(2*i+2, 0, 1), at(2*i+3, 0, 0), at(2*i+3, topTick, topNode)} {
				wantPrune(t, c, mark, rest)
			}
		}
	}
}

// P7.1 to P7.3

// someVersions are versions at stamps that differ in one number or more; some are not valid.
func someVersions() []api.Version {
	var l []api.Version
	for _, s := range []api.Stamp{{}, at(0, 0, 1), at(0, 1, 0), at(1, 0, 0), at(1, 1, 1), at(topWall, topTick, topNode)} {
		l = append(l, with(s, "a"), with(s, ""), gone(s))
	}
	return append(l, with(at(1, 0, 256), "a"), gone(at(2, -1, 0)), put(3, longValues[0]), api.Version{At: at(1, 0, 1), Gone: true, Value: "a"})
}

// eachChain calls f with all chains of at most n of these versions, valid or not.
func eachChain(versions []api.Version, n int, f func(c []api.Version)) {
	var grow func(c []api.Version)
	grow = func(c []api.Version) {
		f(c)
		if len(c) == n {
			return
		}
		for _, v := range versions {
			grow(append(slices.Clip(c), v))
		}
	}
	grow(nil)
}

func TestShortChainsByDefinition(t *testing.T) {
	versions := someVersions()
	eachChain(versions, 3, func(c []api.Version) {
		wantRight(t, c, valid(c))
		for _, v := range versions {
			wantByDefinition(t, c, v.At)
			if len(c) == 3 {
				continue
			}
			d, err := added(c, v)
			wantAdd(t, c, v, d, err)
		}
	})
}

// dice gives numbers below n in an order that is the same each time.
type dice uint64

func (d *dice) below(n int) int {
	*d = *d*6364136223846793005 + 1442695040888963407
	return int(uint64(*d) >> 33 % uint64(n))
}

// mixed is a valid chain of n versions, whose stamps lie close together and differ in various numbers.
func mixed(d *dice, n int) []api.Version {
	var c []api.Version
	s := at(d.below(3), d.below(3), d.below(3))
	for range n {
		v := with(s, goodValues[d.below(len(goodValues))])
		if d.below(3) == 0 {
			v = gone(s)
		}
		c = append(c, v)
		switch d.below(3) {
		case 0:
			s = at(s.Wall+1+d.below(3), d.below(3), d.below(3))
		case 1:
			s = at(s.Wall, s.Tick+1+d.below(3), d.below(3))
		default:
			s.Node++
		}
	}
	return c
}

func TestMixedChainsByDefinition(t *testing.T) {
	for n := range topVersions + 1 {
		d := dice(n)
		c := mixed(&d, n)
		wantRight(t, c, true)
		for _, s := range moments(c) {
			wantByDefinition(t, c, s)
			for _, v := range []api.Version{gone(s), with(s, "x")} {
				want, err := added(c, v)
				wantAdd(t, c, v, want, err)
			}
		}
		for i := range n {
			for j := range i {
				e := slices.Clone(c)
				e[i].At, e[j].At = e[j].At, e[i].At
				wantRight(t, e, false)
				e[i].At = e[j].At
				wantRight(t, e, false)
			}
		}
	}
}

// P7.4

// wantTheSameFrom asks that c and d have the same values from mark on.
func wantTheSameFrom(t *testing.T, mark api.Stamp, c, d []api.Version, all []api.Stamp) {
	t.Helper()
	for _, s := range all {
		if order(s, mark) < 0 {
			continue
		}
		value, ok := chain.Value(c, s)
		if other, okThen := chain.Value(d, s); other != value || okThen != ok {
			t.Errorf("%v pruned at %v has %q, %t at %v, and not %q, %t", c, mark, other, okThen, s, value, ok)
		}
	}
}

// wantPrunedTwice asks that an earlier mark, and the same one, change nothing, and that a later one does all that it does alone.
func wantPrunedTwice(t *testing.T, c []api.Version, first, second api.Stamp) {
	t.Helper()
	d := chain.Prune(c, first)
	want := d
	if order(second, first) > 0 {
		want = chain.Prune(c, second)
	}
	if e := chain.Prune(d, second); !slices.Equal(e, want) {
		t.Errorf("%v pruned at %v, and then at %v, is %v, want %v", c, first, second, e, want)
	}
}

func TestPrunedChainsHaveTheSameValues(t *testing.T) {
	for n := range 20 {
		d := dice(1000 + n)
		c := mixed(&d, n)
		all := moments(c)
		for _, mark := range all {
			e := chain.Prune(c, mark)
			if !chain.Right(e) {
				t.Errorf("%v pruned at %v is %v, which is not valid", c, mark, e)
			}
			wantTheSameFrom(t, mark, c, e, all)
		}
	}
}

func TestPruneTwice(t *testing.T) {
	c := chapter()
	for first := range 8 {
		for second := range 8 {
			wantPrunedTwice(t, c, at(first, 0, 0), at(second, 0, 0))
		}
	}
	wantPrune(t, chain.Prune(c, at(3, 0, 0)), at(2, 0, 0), c[2:])
	wantPrune(t, chain.Prune(c, at(3, 0, 0)), at(3, 0, 0), c[2:])
	wantPrune(t, chain.Prune(c, at(2, 0, 0)), at(3, 0, 0), c[2:])
	for n := range 9 {
		d := dice(2000 + n)
		c := mixed(&d, n)
		all := moments(c)
		for _, first := range all {
			for _, second := range all {
				wantPrunedTwice(t, c, first, second)
			}
		}
	}
}

func TestAnAddedVersionIsTheLast(t *testing.T) {
	var c []api.Version
	d := dice(7)
	for i, v := range mixed(&d, topVersions) {
		before := c
		var err api.Errno
		if c, err = chain.Add(c, v); err != api.OK || len(c) != i+1 || c[i] != v || !slices.Equal(c[:i], before) {
			t.Fatalf("Add(%v, %v) = %v, %d", before, v, c, err)
		}
		if !chain.Right(c) {
			t.Fatalf("Add gives %v, which is not valid", c)
		}
		wantAt(t, c, v.At, v)
		wantAt(t, c, at(topWall, topTick, topNode), v)
		for _, s := range moments(before) {
			if order(s, v.At) >= 0 {
				wantAt(t, c, s, v)
				continue
			}
			old, ok := chain.At(before, s)
			if got, okNow := chain.At(c, s); got != old || okNow != ok {
				t.Errorf("with %v added, At(%v, %v) is %v, %t, and no longer %v, %t", v, before, s, got, okNow, old, ok)
			}
		}
	}
	wantNoAdd(t, c, gone(at(topWall, topTick, topNode)), api.ErrFull)
}

// A full chain has room again once it is pruned.
func TestAddAfterPrune(t *testing.T) {
	c := ofLength(topVersions)
	wantNoAdd(t, c, put(200, "x"), api.ErrFull)
	d := chain.Prune(c, at(4, 0, 0))
	wantAdd(t, d, put(200, "x"), slices.Concat(c[2:], []api.Version{put(200, "x")}), api.OK)
	// What is pruned away is forgotten with its stamp.
	d = chain.Prune([]api.Version{put(5, "a"), del(9)}, at(9, 0, 0))
	wantAdd(t, d, put(2, "b"), []api.Version{put(2, "b")}, api.OK)
}

// R1

// Two chains that are made of one by Add do not get in each other's way.
func TestAddTwiceToOneChain(t *testing.T) {
	c := make([]api.Version, 3, 100)
	copy(c, chapter())
	d, _ := chain.Add(c, put(6, "d"))
	e, _ := chain.Add(c, put(7, "e"))
	f, _ := chain.Add(d, put(8, "f"))
	g, _ := chain.Add(d, put(9, "g"))
	for _, x := range []struct {
		c    []api.Version
		want []api.Version
	}{
		{c, chapter()},
		{d, append(chapter(), put(6, "d"))},
		{e, append(chapter(), put(7, "e"))},
		{f, append(chapter(), put(6, "d"), put(8, "f"))},
		{g, append(chapter(), put(6, "d"), put(9, "g"))},
	} {
		if !slices.Equal(x.c, x.want) {
			t.Errorf("%v has become %v", x.want, x.c)
		}
	}
	if behind := c[:4][3]; behind != (api.Version{}) {
		t.Errorf("Add has written %v behind the chain's end", behind)
	}
}

// P1, R4

func TestTheSameCallTwice(t *testing.T) {
	v := put(2000, "x")
	for _, c := range append(badChains(), nil, chapter(), ofLength(topVersions-1), ofLength(topVersions)) {
		if chain.Right(c) != chain.Right(c) {
			t.Errorf("Right(%v) differs from call to call", c)
		}
		d, err := chain.Add(c, v)
		if again, errAgain := chain.Add(c, v); !slices.Equal(again, d) || errAgain != err {
			t.Errorf("Add(%v, %v) differs from call to call", c, v)
		}
		for _, s := range []api.Stamp{{}, at(4, 0, 0), at(2000, 0, 0)} {
			found, ok := chain.At(c, s)
			if again, okAgain := chain.At(c, s); again != found || okAgain != ok {
				t.Errorf("At(%v, %v) differs from call to call", c, s)
			}
			value, ok := chain.Value(c, s)
			if again, okAgain := chain.Value(c, s); again != value || okAgain != ok {
				t.Errorf("Value(%v, %v) differs from call to call", c, s)
			}
			if !slices.Equal(chain.Prune(c, s), chain.Prune(c, s)) {
				t.Errorf("Prune(%v, %v) differs from call to call", c, s)
			}
		}
	}
}
