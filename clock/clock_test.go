package clock_test

import (
	"math"
	"slices"
	"testing"

	"stratigraph/api"
	"stratigraph/clock"
)

// The greatest numbers that are allowed, and how far a stamp may be ahead, written out.
const (
	topWall = 1099511627776
	topTick = 1048576
	topNode = 255
	skew    = 1000
)

// walls, ticks and nodes are numbers at, just below and just above each end of what is allowed, and far from it.
var (
	walls = []int{math.MinInt, math.MinInt + skew, -topWall, -1, 0, 1, 5, 999, 1000, 1001, topWall - skew - 1, topWall - skew, topWall - skew + 1, topWall - 1, topWall, topWall + 1, math.MaxInt - skew, math.MaxInt}
	ticks = []int{math.MinInt, -1, 0, 1, 2, topTick - 1, topTick, topTick + 1, topWall, math.MaxInt}
	nodes = []int{math.MinInt, -255, -1, 0, 1, 2, 254, 255, 256, 257, 511, topTick, math.MaxInt}
)

// bad are stamps that are not valid, in one of their numbers or in several.
var bad = []api.Stamp{
	{Wall: -1}, {Wall: topWall + 1}, {Wall: math.MinInt}, {Wall: math.MaxInt},
	{Tick: -1}, {Tick: topTick + 1}, {Tick: math.MinInt}, {Tick: math.MaxInt},
	{Node: -1}, {Node: topNode + 1}, {Node: math.MinInt}, {Node: math.MaxInt},
	{Wall: 5, Tick: 7, Node: -1}, {Wall: 5, Tick: -1, Node: 2}, {Wall: -1, Tick: 7, Node: 2},
	{Wall: 5, Tick: 7, Node: 256}, {Wall: 5, Tick: topTick + 1, Node: 2}, {Wall: topWall + 1, Tick: 7, Node: 2},
	{Wall: topWall + 1, Tick: topTick + 1, Node: topNode + 1}, {Wall: -1, Tick: -1, Node: -1},
	{Wall: math.MaxInt, Tick: math.MinInt, Node: math.MaxInt},
}

// badWalls are readings that no wall clock has.
var badWalls = []int{math.MinInt, -topWall, -1, topWall + 1, math.MaxInt}

func at(wall, tick, node int) api.Stamp {
	return api.Stamp{Wall: wall, Tick: tick, Node: node}
}

func clockAt(wall, tick, node int) clock.Clock {
	return clock.Clock{At: at(wall, tick, node)}
}

// valid reports whether s is valid, in the words of layer 5.
func valid(s api.Stamp) bool {
	switch {
	case s.Wall < 0, s.Tick < 0, s.Node < 0:
		return false
	case s.Wall > topWall, s.Tick > topTick, s.Node > topNode:
		return false
	}
	return true
}

// order compares by Wall, then by Tick, then by Node.
func order(a, b api.Stamp) int {
	return slices.Compare([]int{a.Wall, a.Tick, a.Node}, []int{b.Wall, b.Tick, b.Node})
}

// now is Now in the chapter's words.
func now(c clock.Clock, wall int) (clock.Clock, api.Stamp, api.Errno) {
	if !valid(c.At) || wall < 0 || wall > topWall {
		return clock.Clock{}, api.Stamp{}, api.ErrArg
	}
	if wall > c.At.Wall {
		s := at(wall, 0, c.At.Node)
		return clock.Clock{At: s}, s, api.OK
	}
	if c.At.Tick == topTick {
		return clock.Clock{}, api.Stamp{}, api.ErrFull
	}
	s := at(c.At.Wall, c.At.Tick+1, c.At.Node)
	return clock.Clock{At: s}, s, api.OK
}

// raise is Raise in the chapter's words.
func raise(c clock.Clock, s api.Stamp) (clock.Clock, api.Errno) {
	if !valid(c.At) || !valid(s) {
		return clock.Clock{}, api.ErrArg
	}
	if slices.Compare([]int{s.Wall, s.Tick}, []int{c.At.Wall, c.At.Tick}) > 0 {
		return clockAt(s.Wall, s.Tick, c.At.Node), api.OK
	}
	return c, api.OK
}

// hear is Hear in the chapter's words.
func hear(c clock.Clock, wall int, s api.Stamp) (clock.Clock, api.Errno) {
	if !valid(c.At) || wall < 0 || wall > topWall || !valid(s) {
		return clock.Clock{}, api.ErrArg
	}
	if s.Wall > wall+skew {
		return clock.Clock{}, api.ErrSkew
	}
	return raise(c, s)
}

func wantNew(t *testing.T, node int, want clock.Clock, wantErr api.Errno) {
	t.Helper()
	if c, err := clock.New(node); c != want || err != wantErr {
		t.Errorf("New(%d) = %v, %d, want %v, %d", node, c, err, want, wantErr)
	}
}

// wantNow asks that Now gives this stamp, twice: as the new At and as the stamp.
func wantNow(t *testing.T, c clock.Clock, wall int, want api.Stamp) {
	t.Helper()
	if d, s, err := clock.Now(c, wall); d.At != want || s != want || err != api.OK {
		t.Errorf("Now(%v, %d) = %v, %v, %d, want %v", c, wall, d, s, err, want)
	}
}

func wantNoNow(t *testing.T, c clock.Clock, wall int, want api.Errno) {
	t.Helper()
	if d, s, err := clock.Now(c, wall); d != (clock.Clock{}) || s != (api.Stamp{}) || err != want {
		t.Errorf("Now(%v, %d) = %v, %v, %d, want the error %d", c, wall, d, s, err, want)
	}
}

func wantHear(t *testing.T, c clock.Clock, wall int, s api.Stamp, want api.Stamp, wantErr api.Errno) {
	t.Helper()
	if d, err := clock.Hear(c, wall, s); d.At != want || err != wantErr {
		t.Errorf("Hear(%v, %d, %v) = %v, %d, want %v, %d", c, wall, s, d, err, want, wantErr)
	}
}

func wantNoHear(t *testing.T, c clock.Clock, wall int, s api.Stamp, want api.Errno) {
	t.Helper()
	wantHear(t, c, wall, s, api.Stamp{}, want)
}

func wantRaise(t *testing.T, c clock.Clock, s api.Stamp, want api.Stamp, wantErr api.Errno) {
	t.Helper()
	if d, err := clock.Raise(c, s); d.At != want || err != wantErr {
		t.Errorf("Raise(%v, %v) = %v, %d, want %v, %d", c, s, d, err, want, wantErr)
	}
}

func wantNoRaise(t *testing.T, c clock.Clock, s api.Stamp, want api.Errno) {
	t.Helper()
	wantRaise(t, c, s, api.Stamp{}, want)
}

// P6.1

func TestNewOfEachNode(t *testing.T) {
	for node := -300; node <= 600; node++ {
		if 0 <= node && node <= 255 {
			wantNew(t, node, clockAt(0, 0, node), api.OK)
		} else {
			wantNew(t, node, clock.Clock{}, api.ErrArg)
		}
	}
}

func TestNewOfNoNode(t *testing.T) {
	for _, node := range []int{math.MinInt, math.MinInt + 1, -topWall, -256, -255, -1, 256, 257, 1000, topTick, topWall, 1 << 32, 1<<32 + 2, math.MaxInt - 1, math.MaxInt} {
		wantNew(t, node, clock.Clock{}, api.ErrArg)
	}
}

func TestClocksThatAreNotValid(t *testing.T) {
	for _, s := range bad {
		c := clock.Clock{At: s}
		for _, wall := range []int{0, 5, 6, topWall} {
			wantNoNow(t, c, wall, api.ErrArg)
			wantNoHear(t, c, wall, api.Stamp{}, api.ErrArg)
			wantNoHear(t, c, wall, at(wall, 1, 1), api.ErrArg)
			// Neither the end of the ticks nor the skew is told first.
			wantNoHear(t, c, 0, at(topWall, topTick, topNode), api.ErrArg)
			wantNoRaise(t, c, at(wall, 1, 1), api.ErrArg)
		}
		wantNoRaise(t, c, api.Stamp{}, api.ErrArg)
		wantNoRaise(t, c, at(topWall, topTick, topNode), api.ErrArg)
	}
	wantNoNow(t, clockAt(9, topTick, -1), 9, api.ErrArg)
	wantNoNow(t, clockAt(9, topTick, 256), 9, api.ErrArg)
	wantNoNow(t, clockAt(-1, topTick, 2), 0, api.ErrArg)
	wantNoNow(t, clockAt(topWall+1, topTick, 2), 0, api.ErrArg)
	wantNoNow(t, clockAt(9, topTick+1, 2), 9, api.ErrArg)
	wantNoNow(t, clockAt(9, topTick+1, 2), 10, api.ErrArg)
}

func TestWallsThatAreNotAllowed(t *testing.T) {
	for _, wall := range badWalls {
		for _, c := range []clock.Clock{{}, clockAt(5, 0, 2), clockAt(topWall, 1, 255), clockAt(9, topTick, 2), clockAt(topWall, topTick, 2)} {
			wantNoNow(t, c, wall, api.ErrArg)
			wantNoHear(t, c, wall, api.Stamp{}, api.ErrArg)
			wantNoHear(t, c, wall, at(5, 1, 1), api.ErrArg)
			wantNoHear(t, c, wall, at(topWall, 0, 0), api.ErrArg)
			wantNoHear(t, c, wall, at(skew, 0, 0), api.ErrArg)
		}
	}
}

func TestWallsAtTheEnds(t *testing.T) {
	wantNow(t, clockAt(0, 0, 2), 0, at(0, 1, 2))
	wantNow(t, clockAt(0, 0, 2), topWall, at(topWall, 0, 2))
	wantNow(t, clockAt(0, 0, 2), topWall-1, at(topWall-1, 0, 2))
	wantNow(t, clockAt(topWall-1, 7, 2), topWall, at(topWall, 0, 2))
	wantNow(t, clockAt(topWall, 7, 2), topWall, at(topWall, 8, 2))
	wantNow(t, clockAt(topWall, 7, 2), topWall-1, at(topWall, 8, 2))
	wantNow(t, clockAt(topWall, 7, 2), 0, at(topWall, 8, 2))
	wantHear(t, clockAt(5, 6, 2), 0, at(0, 0, 0), at(5, 6, 2), api.OK)
	wantHear(t, clockAt(5, 6, 2), topWall, at(0, 0, 0), at(5, 6, 2), api.OK)
	wantHear(t, clockAt(5, 6, 2), topWall, at(topWall, topTick, 0), at(topWall, topTick, 2), api.OK)
	wantNoHear(t, clockAt(5, 6, 2), 0, at(topWall, topTick, 0), api.ErrSkew)
}

func TestStampsThatAreNotValid(t *testing.T) {
	for _, s := range bad {
		for _, c := range []clock.Clock{{}, clockAt(5, 7, 2), clockAt(topWall, topTick, topNode)} {
			for _, wall := range []int{0, 5, topWall} {
				// The skew, if any, is not told first.
				wantNoHear(t, c, wall, s, api.ErrArg)
			}
			wantNoRaise(t, c, s, api.ErrArg)
		}
	}
	wantNoHear(t, clockAt(5, 7, 2), 0, at(2000, 0, 256), api.ErrArg)
	wantNoHear(t, clockAt(5, 7, 2), 0, at(2000, -1, 0), api.ErrArg)
}

func TestSeveralWrongArguments(t *testing.T) {
	for _, s := range bad {
		c := clock.Clock{At: s}
		for _, wall := range badWalls {
			wantNoNow(t, c, wall, api.ErrArg)
			wantNoHear(t, c, wall, at(topWall, 0, 0), api.ErrArg)
			wantNoHear(t, clockAt(5, 7, 2), wall, s, api.ErrArg)
			for _, other := range bad {
				wantNoHear(t, c, wall, other, api.ErrArg)
			}
		}
		for _, other := range bad {
			wantNoHear(t, c, 5, other, api.ErrArg)
			wantNoRaise(t, c, other, api.ErrArg)
		}
	}
}

// P6.2

func TestNowWrittenOut(t *testing.T) {
	for _, x := range []struct {
		c    clock.Clock
		wall int
		want api.Stamp
	}{
		// The wall is above At's: it alone counts.
		{clockAt(0, 0, 2), 1, at(1, 0, 2)},
		{clockAt(0, 0, 2), 5, at(5, 0, 2)},
		{clockAt(5, 0, 2), 6, at(6, 0, 2)},
		{clockAt(5, 7, 2), 6, at(6, 0, 2)},
		{clockAt(5, 7, 2), 100, at(100, 0, 2)},
		{clockAt(0, 1, 255), 1, at(1, 0, 255)},
		// The wall is at At's.
		{clockAt(0, 0, 0), 0, at(0, 1, 0)},
		{clockAt(5, 0, 2), 5, at(5, 1, 2)},
		{clockAt(5, 7, 2), 5, at(5, 8, 2)},
		{clockAt(5, 7, 255), 5, at(5, 8, 255)},
		// The wall is below At's.
		{clockAt(5, 0, 2), 4, at(5, 1, 2)},
		{clockAt(5, 1, 2), 3, at(5, 2, 2)},
		{clockAt(5, 7, 0), 0, at(5, 8, 0)},
		{clockAt(5000, 7, 0), 0, at(5000, 8, 0)},
		// Not the Tick but the Wall is compared with the wall.
		{clockAt(5, 9, 2), 7, at(7, 0, 2)},
		{clockAt(9, 5, 2), 7, at(9, 6, 2)},
		{clockAt(5, 6, 9), 7, at(7, 0, 9)},
	} {
		wantNow(t, x.c, x.wall, x.want)
	}
}

func TestNowOfTheChapter(t *testing.T) {
	c, err := clock.New(2)
	if err != api.OK {
		t.Fatalf("New(2): %d", err)
	}
	for _, x := range []struct {
		wall int
		want api.Stamp
	}{{5, at(5, 0, 2)}, {5, at(5, 1, 2)}, {3, at(5, 2, 2)}} {
		wantNow(t, c, x.wall, x.want)
		c, _, _ = clock.Now(c, x.wall)
	}
	wantNoHear(t, c, 5, at(1006, 0, 0), api.ErrSkew)
}

func TestNowAtTheLastTick(t *testing.T) {
	for _, wall := range []int{0, 1, 8, 9} {
		wantNow(t, clockAt(9, topTick-2, 2), wall, at(9, topTick-1, 2))
		wantNow(t, clockAt(9, topTick-1, 2), wall, at(9, topTick, 2))
		wantNoNow(t, clockAt(9, topTick, 2), wall, api.ErrFull)
	}
	for _, wall := range []int{10, 11, topWall - 1, topWall} {
		wantNow(t, clockAt(9, topTick-1, 2), wall, at(wall, 0, 2))
		wantNow(t, clockAt(9, topTick, 2), wall, at(wall, 0, 2))
	}
	wantNoNow(t, clockAt(0, topTick, 0), 0, api.ErrFull)
	wantNow(t, clockAt(0, topTick, 0), 1, at(1, 0, 0))
	wantNow(t, clockAt(topWall-1, topTick, 255), topWall, at(topWall, 0, 255))
	wantNow(t, clockAt(topWall, topTick-1, 255), topWall, at(topWall, topTick, 255))
	for _, wall := range []int{0, topWall - 1, topWall} {
		wantNoNow(t, clockAt(topWall, topTick, 255), wall, api.ErrFull)
	}
}

func TestNowByDefinition(t *testing.T) {
	for _, c := range allClocks() {
		for _, wall := range wallsAround(c.At.Wall) {
			want, wantStamp, wantErr := now(c, wall)
			if d, s, err := clock.Now(c, wall); d != want || s != wantStamp || err != wantErr {
				t.Errorf("Now(%v, %d) = %v, %v, %d, want %v, %v, %d", c, wall, d, s, err, want, wantStamp, wantErr)
			}
		}
	}
}

// allClocks are the clocks at all walls, ticks and nodes, valid or not.
func allClocks() []clock.Clock {
	var l []clock.Clock
	for _, wall := range walls {
		for _, tick := range ticks {
			for _, node := range nodes {
				l = append(l, clockAt(wall, tick, node))
			}
		}
	}
	return l
}

// wallsAround are all walls, and those that differ from this one by about 1 and about the skew.
func wallsAround(wall int) []int {
	l := slices.Clone(walls)
	for _, far := range []int{0, 1, skew - 1, skew, skew + 1} {
		l = append(l, wall+far, wall-far)
	}
	return l
}

// P6.3

func TestHearAtTheSkew(t *testing.T) {
	for _, wall := range []int{0, 1, 5, 999, 1000, 1001, 123456, topWall - 1001} {
		for _, c := range []clock.Clock{clockAt(0, 0, 2), clockAt(0, topTick, 255)} {
			for _, tick := range []int{0, 1, topTick} {
				for _, node := range []int{0, 2, 255} {
					wantHear(t, c, wall, at(wall+999, tick, node), at(wall+999, tick, c.At.Node), api.OK)
					wantHear(t, c, wall, at(wall+1000, tick, node), at(wall+1000, tick, c.At.Node), api.OK)
					wantNoHear(t, c, wall, at(wall+1001, tick, node), api.ErrSkew)
				}
			}
		}
	}
	for _, wall := range []int{topWall - 1000, topWall - 999, topWall - 1, topWall} {
		wantHear(t, clockAt(0, 0, 2), wall, at(topWall, 1, 0), at(topWall, 1, 2), api.OK)
	}
}

func TestHearComparesTheSkewWithTheWall(t *testing.T) {
	// At is no help to a stamp that is ahead of the wall, and no harm to one that is not.
	wantNoHear(t, clockAt(1006, 0, 2), 5, at(1006, 0, 0), api.ErrSkew)
	wantNoHear(t, clockAt(2000, 0, 2), 5, at(1006, 0, 0), api.ErrSkew)
	wantNoHear(t, clockAt(topWall, topTick, 2), 5, at(1006, 0, 0), api.ErrSkew)
	wantNoHear(t, clockAt(500, 0, 2), 5, at(1006, topTick, 255), api.ErrSkew)
	wantHear(t, clockAt(0, 0, 2), 5000, at(5500, 0, 0), at(5500, 0, 2), api.OK)
	wantHear(t, clockAt(9000, 3, 2), 5, at(7, 8, 0), at(9000, 3, 2), api.OK)
	// The skew is a bound ahead of the wall only.
	wantHear(t, clockAt(0, 0, 2), topWall, at(5, 6, 0), at(5, 6, 2), api.OK)
	wantHear(t, clockAt(0, 0, 2), 5000, at(3999, 6, 0), at(3999, 6, 2), api.OK)
	wantHear(t, clockAt(0, 0, 2), 5000, at(0, 0, 0), at(0, 0, 2), api.OK)
	// The Tick and the Node do not count.
	wantHear(t, clockAt(0, 0, 2), 5, at(1005, topTick, 255), at(1005, topTick, 2), api.OK)
}

func TestHearTakesNothingFromTheWall(t *testing.T) {
	for _, wall := range []int{5, 6, 700, topWall} {
		wantHear(t, clockAt(5, 3, 2), wall, at(5, 2, 9), at(5, 3, 2), api.OK)
		wantHear(t, clockAt(5, 3, 2), wall, at(5, 4, 9), at(5, 4, 2), api.OK)
		wantHear(t, clockAt(5, 3, 2), wall, at(4, 9, 9), at(5, 3, 2), api.OK)
	}
}

// raised are clocks and stamps that they come to know, written out, with the new At.
var raised = []struct {
	c    clock.Clock
	s    api.Stamp
	want api.Stamp
}{
	// By Wall alone.
	{clockAt(5, 6, 7), at(6, 6, 7), at(6, 6, 7)},
	{clockAt(5, 6, 7), at(4, 6, 7), at(5, 6, 7)},
	// By Tick alone.
	{clockAt(5, 6, 7), at(5, 7, 7), at(5, 7, 7)},
	{clockAt(5, 6, 7), at(5, 5, 7), at(5, 6, 7)},
	// By Node alone: it is not compared.
	{clockAt(5, 6, 7), at(5, 6, 8), at(5, 6, 7)},
	{clockAt(5, 6, 7), at(5, 6, 6), at(5, 6, 7)},
	{clockAt(5, 6, 7), at(5, 6, 7), at(5, 6, 7)},
	{clockAt(5, 6, 0), at(5, 6, 255), at(5, 6, 0)},
	{clockAt(5, 6, 255), at(5, 6, 0), at(5, 6, 255)},
	// Of two numbers that point opposite ways, the first tells.
	{clockAt(5, 6, 7), at(6, 0, 0), at(6, 0, 7)},
	{clockAt(5, 6, 7), at(4, 9, 9), at(5, 6, 7)},
	{clockAt(5, 6, 7), at(5, 7, 0), at(5, 7, 7)},
	{clockAt(5, 6, 7), at(5, 5, 9), at(5, 6, 7)},
	{clockAt(5, 0, 0), at(4, topTick, 255), at(5, 0, 0)},
	{clockAt(5, topTick, 255), at(6, 0, 0), at(6, 0, 255)},
	// Numbers are compared, not their digits.
	{clockAt(9, 1, 2), at(10, 0, 3), at(10, 0, 2)},
	{clockAt(1, 9, 2), at(1, 10, 3), at(1, 10, 2)},
	// The node stays, whatever it is.
	{clockAt(0, 0, 0), at(9, 4, 7), at(9, 4, 0)},
	{clockAt(0, 0, 2), at(9, 4, 7), at(9, 4, 2)},
	{clockAt(0, 0, 255), at(9, 4, 0), at(9, 4, 255)},
	// The ends.
	{clockAt(0, 0, 2), at(0, 0, 0), at(0, 0, 2)},
	{clockAt(0, 0, 2), at(0, 1, 0), at(0, 1, 2)},
	{clockAt(0, 0, 2), at(1, 0, 0), at(1, 0, 2)},
	{clockAt(0, 0, 2), at(1000, topTick, 255), at(1000, topTick, 2)},
	{clockAt(topWall, topTick, 2), at(0, 0, 0), at(topWall, topTick, 2)},
	{clockAt(topWall, topTick, 2), at(1000, topTick, 255), at(topWall, topTick, 2)},
}

func TestRaiseWrittenOut(t *testing.T) {
	for _, x := range raised {
		wantRaise(t, x.c, x.s, x.want, api.OK)
		for _, wall := range []int{0, 5, 1000, topWall} {
			wantHear(t, x.c, wall, x.s, x.want, api.OK)
		}
	}
}

func TestRaiseKnowsNoSkew(t *testing.T) {
	wantRaise(t, clockAt(0, 0, 2), at(1001, 0, 0), at(1001, 0, 2), api.OK)
	wantRaise(t, clockAt(5, 6, 2), at(1006, 0, 0), at(1006, 0, 2), api.OK)
	wantRaise(t, clockAt(5, 6, 2), at(topWall-1, 3, 0), at(topWall-1, 3, 2), api.OK)
	wantRaise(t, clockAt(0, 0, 2), at(topWall, topTick, 255), at(topWall, topTick, 2), api.OK)
	wantRaise(t, clockAt(topWall, topTick-1, 2), at(topWall, topTick, 255), at(topWall, topTick, 2), api.OK)
	wantRaise(t, clockAt(topWall, topTick, 2), at(topWall, topTick, 255), at(topWall, topTick, 2), api.OK)
}

func TestRaiseByDefinition(t *testing.T) {
	clocks := allClocks()
	for i, c := range clocks {
		for j := i % 11; j < len(clocks); j += 11 {
			s := clocks[j].At
			want, wantErr := raise(c, s)
			wantRaise(t, c, s, want.At, wantErr)
		}
		for _, s := range neighbours(c.At) {
			want, wantErr := raise(c, s)
			wantRaise(t, c, s, want.At, wantErr)
		}
	}
}

// neighbours are the stamps that differ from s by at most 1 in each number.
func neighbours(s api.Stamp) []api.Stamp {
	var l []api.Stamp
	for wall := -1; wall <= 1; wall++ {
		for tick := -1; tick <= 1; tick++ {
			for node := -1; node <= 1; node++ {
				l = append(l, at(s.Wall+wall, s.Tick+tick, s.Node+node))
			}
		}
	}
	return l
}

func TestHearByDefinition(t *testing.T) {
	clocks := allClocks()
	for i, c := range clocks {
		for j := i % 47; j < len(clocks); j += 47 {
			s := clocks[j].At
			for _, wall := range wallsAround(s.Wall) {
				want, wantErr := hear(c, wall, s)
				wantHear(t, c, wall, s, want.At, wantErr)
			}
		}
	}
}

func TestHearIsRaise(t *testing.T) {
	for _, x := range raised {
		for _, s := range neighbours(x.s) {
			for _, wall := range []int{1, 4, 5, 6, 1001, topWall} {
				c, err := clock.Hear(x.c, wall, s)
				d, wantErr := clock.Raise(x.c, s)
				if c != d || err != wantErr {
					t.Errorf("Hear(%v, %d, %v) = %v, %d, but Raise gives %v, %d", x.c, wall, s, c, err, d, wantErr)
				}
			}
		}
	}
}

// P6.4

// run is some clocks, with the last stamp that each has issued or received and all stamps that any has issued.
type run struct {
	t      *testing.T
	clocks []clock.Clock
	known  []api.Stamp
	issued map[api.Stamp]bool
}

func newRun(t *testing.T, nodes ...int) *run {
	t.Helper()
	r := &run{t: t, issued: map[api.Stamp]bool{}}
	for _, node := range nodes {
		c, err := clock.New(node)
		if err != api.OK {
			t.Fatalf("New(%d): %d", node, err)
		}
		r.clocks = append(r.clocks, c)
		r.known = append(r.known, at(0, 0, 0))
	}
	return r
}

// now asks that the stamp is later than all that the clock knows, and that no clock has issued it before.
func (r *run) now(i, wall int) api.Stamp {
	r.t.Helper()
	c, s, err := clock.Now(r.clocks[i], wall)
	if err != api.OK {
		r.t.Fatalf("Now(%v, %d): %d", r.clocks[i], wall, err)
	}
	if order(s, r.known[i]) <= 0 {
		r.t.Fatalf("Now(%v, %d) gives %v after %v", r.clocks[i], wall, s, r.known[i])
	}
	if r.issued[s] {
		r.t.Fatalf("Now(%v, %d) gives %v once more", r.clocks[i], wall, s)
	}
	if c.At != s || s.Node != r.clocks[i].At.Node || s.Wall < wall {
		r.t.Fatalf("Now(%v, %d) gives %v with %v", r.clocks[i], wall, s, c)
	}
	r.clocks[i], r.known[i], r.issued[s] = c, s, true
	return s
}

// hear has the clock receive s, if that is not too far ahead.
func (r *run) hear(i, wall int, s api.Stamp) {
	r.t.Helper()
	c, err := clock.Hear(r.clocks[i], wall, s)
	if (err == api.ErrSkew) != (s.Wall > wall+skew) {
		r.t.Fatalf("Hear(%v, %d, %v): %d", r.clocks[i], wall, s, err)
	}
	if err != api.ErrSkew {
		r.received(i, c, s, err)
	}
}

func (r *run) raise(i int, s api.Stamp) {
	r.t.Helper()
	c, err := clock.Raise(r.clocks[i], s)
	r.received(i, c, s, err)
}

func (r *run) received(i int, c clock.Clock, s api.Stamp, err api.Errno) {
	r.t.Helper()
	before := r.clocks[i]
	if err != api.OK || c.At.Node != before.At.Node || order(c.At, before.At) < 0 {
		r.t.Fatalf("%v comes to know %v: %v, %d", before, s, c, err)
	}
	r.clocks[i] = c
	if order(s, r.known[i]) > 0 {
		r.known[i] = s
	}
}

func TestStampsRiseInEveryShortRun(t *testing.T) {
	const steps, kinds = 5, 10
	all := 1
	for range steps {
		all *= kinds
	}
	for n := range all {
		r := newRun(t, 3, 2)
		for range steps {
			i, what := n%2, n/2%5
			switch what {
			case 3:
				r.hear(i, 1, r.known[1-i])
			case 4:
				r.raise(i, r.known[1-i])
			default:
				r.now(i, what)
			}
			n /= kinds
		}
	}
}

// dice gives numbers below n in an order that is the same each time.
type dice uint64

func (d *dice) below(n int) int {
	*d = *d*6364136223846793005 + 1442695040888963407
	return int(uint64(*d) >> 33 % uint64(n))
}

func TestStampsRiseInLongRuns(t *testing.T) {
	for seed := range 20 {
		d := dice(seed)
		r := newRun(t, 0, 1, 2, 7, 254, 255)
		sent := []api.Stamp{{}}
		base := []int{0, 7, 1000, topWall - 5000}[seed%4]
		for range 20000 {
			i, wall := d.below(len(r.clocks)), base+d.below(1+seed*seed)
			switch d.below(6) {
			case 0:
				r.hear(i, wall, sent[d.below(len(sent))])
			case 1:
				r.hear(i, wall, at(base+d.below(2500), d.below(9), d.below(256)))
			case 2:
				r.raise(i, sent[len(sent)-1-d.below(min(len(sent), 50))])
			default:
				sent = append(sent, r.now(i, wall))
			}
		}
	}
}

func TestStampsRiseWhileTheWallStands(t *testing.T) {
	r := newRun(t, 9)
	r.raise(0, at(50, topTick-100, 200))
	for range 100 {
		r.now(0, 50)
	}
	wantNoNow(t, r.clocks[0], 50, api.ErrFull)
	wantNoNow(t, r.clocks[0], 49, api.ErrFull)
	if s := r.now(0, 51); s != at(51, 0, 9) {
		t.Errorf("after the last tick, Now gives %v", s)
	}
}

func TestStampsRiseFromTheFirstTickToTheLast(t *testing.T) {
	c, err := clock.New(4)
	for tick := 1; tick <= topTick && err == api.OK; tick++ {
		var s api.Stamp
		if c, s, err = clock.Now(c, 0); s != at(0, tick, 4) {
			t.Fatalf("stamp %d is %v", tick, s)
		}
	}
	if err != api.OK {
		t.Fatalf("Now: %d", err)
	}
	wantNoNow(t, c, 0, api.ErrFull)
}

func TestTwoNodesNeverIssueTheSame(t *testing.T) {
	for a := range 256 {
		for b := range a {
			r := newRun(t, a, b)
			s := r.now(0, 5)
			r.hear(1, 5, s)
			s = r.now(1, 5)
			r.now(0, 5)
			r.raise(0, s)
			r.now(0, 5)
			r.now(1, 5)
		}
	}
}

// P1, R4

func TestTheSameCallTwice(t *testing.T) {
	clocks := allClocks()
	for i, c := range clocks {
		s, wall := clocks[(i*31+7)%len(clocks)].At, walls[i%len(walls)]
		before := c
		d, x, err := clock.Now(c, wall)
		if again, y, errAgain := clock.Now(c, wall); again != d || y != x || errAgain != err {
			t.Errorf("Now(%v, %d) differs from call to call", c, wall)
		}
		d, err = clock.Hear(c, wall, s)
		if again, errAgain := clock.Hear(c, wall, s); again != d || errAgain != err {
			t.Errorf("Hear(%v, %d, %v) differs from call to call", c, wall, s)
		}
		d, err = clock.Raise(c, s)
		if again, errAgain := clock.Raise(c, s); again != d || errAgain != err {
			t.Errorf("Raise(%v, %v) differs from call to call", c, s)
		}
		if c != before {
			t.Errorf("%v has become %v", before, c)
		}
	}
}
