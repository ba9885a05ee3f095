package engine_test

import (
	"fmt"
	"math"
	"reflect"
	"slices"
	"strings"
	"testing"
	"unicode/utf8"

	"stratigraph/api"
	"stratigraph/engine"
)

// The greatest numbers that are allowed, written out.
const (
	topNum      = 1099511627776
	topTick     = 1048576
	topNode     = 255
	topKey      = 16
	topValue    = 16
	topVersions = 64
	topEntries  = 64
	topShards   = 8
	topClients  = 8
	topPage     = 8
	topSkew     = 1000
)

const (
	serving = 1
	frozen  = 2
	ready   = 3
)

// badNumbers are not from 1 to MaxNum; 0 is the first of them. Some of them would be in 32 or 40 bits.
var badNumbers = []int{0, -1, -2, -5, -topNum, math.MinInt, topNum + 1, topNum + 2, 2*topNum + 5, 1<<62 + 5, math.MaxInt}

var badStamps = []api.Stamp{
	{Wall: -1}, {Wall: topNum + 1}, {Wall: math.MinInt}, {Wall: math.MaxInt},
	{Tick: -1}, {Tick: topTick + 1}, {Node: -1}, {Node: topNode + 1},
	{Wall: 50, Tick: topTick + 1}, {Wall: 50, Tick: 7, Node: 256}, {Wall: 50, Tick: -1, Node: 2}, {Wall: topNum + 1, Tick: 7, Node: 2}, {Wall: -1, Tick: -1, Node: -1},
}

var lastStamp = api.Stamp{Wall: topNum, Tick: topTick, Node: topNode}

var badKeys = []string{
	" ", "\x00", "\n", "\x7f", "\u0085", "a b", "a ", "\xff", "a\xff", "\xef\xbf", "c\xc3", "d ",
	strings.Repeat("a", topKey+1), strings.Repeat("d", topKey+1), strings.Repeat("\u00e9", topKey/2) + "a", strings.Repeat("d", 1<<10),
}

var longText = strings.Repeat("v", topValue+1)

func at(wall, tick, node int) api.Stamp { return api.Stamp{Wall: wall, Tick: tick, Node: node} }
func wall(n int) api.Stamp              { return api.Stamp{Wall: n} }

// put and del are versions at a Wall alone.
func put(n int, value string) api.Version { return api.Version{At: wall(n), Value: value} }
func del(n int) api.Version               { return api.Version{At: wall(n), Gone: true} }

func entry(k string, c ...api.Version) api.Entry { return api.Entry{Key: k, Chain: c} }

func row(client, req int, a api.Answer) api.Done {
	return api.Done{Client: client, Req: req, Answer: a}
}

// several is a cell of four shards, in whose fields there is much to tell apart: 2 serves b to m, and 4 serves m to t; 5 is frozen by the move 21, and 9 ready by the move 22.
func several() api.Cell {
	return api.Cell{Top: at(10, 2, 1), Dropped: 7, Shards: []api.Shard{
		{
			ID: 2, Epoch: 3, Span: api.Span{Lo: "b", Hi: "m"}, Phase: serving, Mark: at(1, 1, 1), Top: at(4, 0, 2), Seen: 4, Move: 5, Closed: 6,
			Entries: []api.Entry{entry("b", put(2, "x")), entry("d", put(3, "y"), del(5)), entry("f", put(4, "z"), put(6, "w"))},
			Done:    []api.Done{row(1, 5, api.Answer{At: wall(6), Found: true, Items: []api.Item{}}), row(3, 2, api.Answer{Err: api.ErrClash, At: wall(4), Found: true, Value: "z"})},
		},
		{
			ID: 4, Epoch: 4, Span: api.Span{Lo: "m", Hi: "t"}, Phase: serving, Mark: at(2, 0, 1), Top: at(3, 3, 3), Seen: 3, Move: 8, Closed: 5,
			Entries: []api.Entry{entry("m", put(1, "o"), put(7, "p")), entry("q", put(5, "r"))},
			Done:    []api.Done{row(1, 4, api.Answer{At: wall(5)}), row(2, 9, api.Answer{At: wall(7), Found: true})},
		},
		{
			ID: 5, Epoch: 2, Span: api.Span{Lo: "t", Hi: "w"}, Phase: frozen, Mark: at(1, 0, 0), Top: at(9, 1, 0), Hold: 3, Seen: 2, Move: 21, Closed: 20,
			Entries: []api.Entry{entry("t", put(9, "u")), entry("u", del(8))},
			Done:    []api.Done{row(4, 1, api.Answer{At: wall(9)})},
		},
		{
			ID: 9, Epoch: 6, Span: api.Span{Lo: "w"}, Phase: ready, Mark: at(2, 2, 2), Top: at(8, 1, 1), Hold: 1, Seen: 9, Move: 22, Closed: 19,
			Entries: []api.Entry{entry("y", put(8, ""))},
			Done:    []api.Done{row(8, 3, api.Answer{At: wall(8)})},
		},
	}}
}

// incoming is a shard that the move 30 has frozen elsewhere.
func incoming() api.Shard {
	return api.Shard{
		ID: 6, Epoch: 5, Span: api.Span{Hi: "b"}, Phase: frozen, Mark: at(3, 0, 2), Top: at(12, 0, 3), Hold: 2, Seen: 8, Move: 30, Closed: 29,
		Entries: []api.Entry{entry("a", put(11, "in")), entry("aa", put(2, "s"), del(12))},
		Done:    []api.Done{row(5, 6, api.Answer{At: wall(12), Found: true}), row(7, 1, api.Answer{At: wall(11)})},
	}
}

// lone is a cell whose one shard serves all keys.
func lone() api.Cell {
	return api.Cell{Shards: []api.Shard{{ID: 1, Epoch: 1, Phase: serving}}}
}

// ofLength is a cell of n shards, by their IDs 10, 20 and so on, of which each one ends where the next begins.
func ofLength(n int) api.Cell {
	c := api.Cell{Top: wall(50)}
	for i := range n {
		s := api.Shard{ID: 10 * (i + 1), Epoch: 1, Phase: serving}
		s.Span = api.Span{Lo: letter(i), Hi: letter(i + 1)}
		s.Entries = []api.Entry{entry(letter(i)+"k", put(i+1, "v"))}
		c.Shards = append(c.Shards, s)
	}
	return c
}

func letter(i int) string { return string(rune('a' + i)) }

// fullIndex is an index of 64 entries, from the key e000 on.
func fullIndex() []api.Entry {
	var ix []api.Entry
	for i := range topEntries {
		ix = append(ix, entry(fmt.Sprintf("e%03d", i), put(1, "v")))
	}
	return ix
}

// fullTable is a table of 8 rows, of the clients 10, 20 and so on, each with the request 5.
func fullTable() []api.Done {
	var t []api.Done
	for i := range topClients {
		t = append(t, row(10*(i+1), 5, api.Answer{At: wall(1)}))
	}
	return t
}

// fullChain is a chain of 64 versions, at the Walls from 1 on.
func fullChain() []api.Version {
	var c []api.Version
	for i := range topVersions {
		c = append(c, put(i+1, "v"))
	}
	return c
}

// Memory

func clone[T any](l []T) []T { return slices.Clone(l) }

// cloned is a cell in memory of its own.
func cloned(c api.Cell) api.Cell {
	c.Shards = clone(c.Shards)
	for i := range c.Shards {
		c.Shards[i] = clonedShard(c.Shards[i])
	}
	return c
}

func clonedShard(s api.Shard) api.Shard {
	s.Entries = clone(s.Entries)
	for i := range s.Entries {
		s.Entries[i].Chain = clone(s.Entries[i].Chain)
	}
	s.Done = clone(s.Done)
	for i := range s.Done {
		s.Done[i].Answer.Items = clone(s.Done[i].Answer.Items)
	}
	return s
}

// room is l with room behind its end, in which other lies twice.
func room[T any](l []T, other T) []T {
	if l == nil {
		return nil
	}
	return append(clone(l), other, other)[:len(l)]
}

// lent is a cell as a caller may hold it, with room behind the ends of all its lists, in which something else lies.
func lent(c api.Cell) api.Cell {
	c.Shards = room(c.Shards, api.Shard{ID: 77})
	for i := range c.Shards {
		c.Shards[i] = lentShard(c.Shards[i])
	}
	return c
}

func lentShard(s api.Shard) api.Shard {
	s.Entries = room(s.Entries, entry("behind"))
	for i := range s.Entries {
		s.Entries[i].Chain = room(s.Entries[i].Chain, put(77, "behind"))
	}
	s.Done = room(s.Done, row(77, 7, api.Answer{}))
	for i := range s.Done {
		s.Done[i].Answer.Items = room(s.Done[i].Answer.Items, api.Item{Key: "behind"})
	}
	return s
}

// wide is l with what lies behind its end, if it is lent.
func wide[T any](l []T) []T {
	if l == nil {
		return nil
	}
	return clone(l[:len(l)+2])
}

// memory is all that lies in a lent cell and behind the ends of its lists, in other memory.
func memory(c api.Cell) api.Cell {
	n := len(c.Shards)
	c.Shards = wide(c.Shards)
	for i := range n {
		c.Shards[i] = shardMemory(c.Shards[i])
	}
	return c
}

func shardMemory(s api.Shard) api.Shard {
	n := len(s.Entries)
	s.Entries = wide(s.Entries)
	for i := range n {
		s.Entries[i].Chain = wide(s.Entries[i].Chain)
	}
	n = len(s.Done)
	s.Done = wide(s.Done)
	for i := range n {
		s.Done[i].Answer.Items = wide(s.Done[i].Answer.Items)
	}
	return s
}

// What is the same, where a list that is nil is the same as one that is empty.

func sameEntry(a, b api.Entry) bool {
	return a.Key == b.Key && slices.Equal(a.Chain, b.Chain)
}

func sameAnswer(a, b api.Answer) bool {
	items := slices.Equal(a.Items, b.Items)
	a.Items, b.Items = nil, nil
	return items && reflect.DeepEqual(a, b)
}

func sameRow(a, b api.Done) bool {
	return a.Client == b.Client && a.Req == b.Req && sameAnswer(a.Answer, b.Answer)
}

func sameShard(a, b api.Shard) bool {
	lists := slices.EqualFunc(a.Entries, b.Entries, sameEntry) && slices.EqualFunc(a.Done, b.Done, sameRow)
	a.Entries, b.Entries, a.Done, b.Done = nil, nil, nil, nil
	return lists && reflect.DeepEqual(a, b)
}

func same(a, b api.Cell) bool {
	return a.Top == b.Top && a.Dropped == b.Dropped && slices.EqualFunc(a.Shards, b.Shards, sameShard)
}

// brief is something in few enough letters to be read.
func brief(x any) string {
	return fmt.Sprintf("%.1500s", fmt.Sprintf("%+v", x))
}

// Cells with a change.

// altered is c with one change to the shard id.
func altered(c api.Cell, id int, change func(s *api.Shard)) api.Cell {
	c = cloned(c)
	for i := range c.Shards {
		if c.Shards[i].ID == id {
			change(&c.Shards[i])
			return c
		}
	}
	panic("no such shard")
}

// changed is c with one change.
func changed(c api.Cell, change func(c *api.Cell)) api.Cell {
	c = cloned(c)
	change(&c)
	return c
}

func shardOf(c api.Cell, id int) api.Shard {
	for _, s := range c.Shards {
		if s.ID == id {
			return s
		}
	}
	panic("no such shard")
}

func withoutShard(c api.Cell, id int) api.Cell {
	c = cloned(c)
	c.Shards = slices.DeleteFunc(c.Shards, func(s api.Shard) bool { return s.ID == id })
	return c
}

// What the chapter defines, in its words.

func fromOne(n int) bool  { return n >= 1 && n <= topNum }
func fromZero(n int) bool { return n >= 0 && n <= topNum }

func validStamp(s api.Stamp) bool {
	return s.Wall >= 0 && s.Wall <= topNum && s.Tick >= 0 && s.Tick <= topTick && s.Node >= 0 && s.Node <= topNode
}

// order is less than, equal to or greater than 0 as a precedes, equals or follows b.
func order(a, b api.Stamp) int {
	return slices.Compare([]int{a.Wall, a.Tick, a.Node}, []int{b.Wall, b.Tick, b.Node})
}

func laterOf(a, b api.Stamp) api.Stamp {
	if order(a, b) < 0 {
		return b
	}
	return a
}

func validKey(k string) bool {
	if k == "" || len(k) > topKey || !utf8.ValidString(k) {
		return false
	}
	for _, letter := range k {
		if letter < 33 || letter >= 127 && letter <= 159 {
			return false
		}
	}
	return true
}

// liesIn reports whether a key lies in lo to hi. The order of keys is that of their bytes.
func liesIn(k, lo, hi string) bool {
	return k >= lo && (hi == "" || k < hi)
}

func validSpan(s api.Span) bool {
	return (s.Lo == "" || validKey(s.Lo)) && (s.Hi == "" || validKey(s.Hi) && s.Lo < s.Hi)
}

func validVersion(v api.Version) bool {
	return validStamp(v.At) && len(v.Value) <= topValue && !(v.Gone && v.Value != "")
}

func validIndex(ix []api.Entry) bool {
	if len(ix) > topEntries {
		return false
	}
	for i, e := range ix {
		if !validKey(e.Key) || len(e.Chain) == 0 || len(e.Chain) > topVersions || i > 0 && ix[i-1].Key >= e.Key {
			return false
		}
		for j, v := range e.Chain {
			if !validVersion(v) || j > 0 && order(e.Chain[j-1].At, v.At) >= 0 {
				return false
			}
		}
	}
	return true
}

func validTable(t []api.Done) bool {
	if len(t) > topClients {
		return false
	}
	for i, d := range t {
		a := d.Answer
		plain := a.Err >= 0 && a.Err <= 16 && validStamp(a.At) && len(a.Value) <= topValue && len(a.Items) == 0 && a.Next == "" && !a.More
		if !fromOne(d.Client) || !fromOne(d.Req) || !plain || i > 0 && t[i-1].Client >= d.Client {
			return false
		}
	}
	return true
}

func validShard(s api.Shard) bool {
	for _, n := range []int{s.ID, s.Epoch} {
		if !fromOne(n) {
			return false
		}
	}
	for _, n := range []int{s.Hold, s.Seen, s.Move, s.Closed} {
		if !fromZero(n) {
			return false
		}
	}
	if !validSpan(s.Span) || !validIndex(s.Entries) || !validStamp(s.Mark) || !validStamp(s.Top) || !validTable(s.Done) {
		return false
	}
	for _, e := range s.Entries {
		if !liesIn(e.Key, s.Span.Lo, s.Span.Hi) {
			return false
		}
	}
	return s.Phase == serving || s.Phase == frozen || s.Phase == ready
}

// latest is the latest stamp of a version in s, if it is later than the zero stamp.
func latest(s api.Shard) api.Stamp {
	var last api.Stamp
	for _, e := range s.Entries {
		for _, v := range e.Chain {
			last = laterOf(last, v.At)
		}
	}
	return last
}

func validCell(c api.Cell) bool {
	if len(c.Shards) > topShards || !validStamp(c.Top) || !fromZero(c.Dropped) {
		return false
	}
	for i, s := range c.Shards {
		if !validShard(s) || i > 0 && c.Shards[i-1].ID >= s.ID || order(latest(s), c.Top) > 0 {
			return false
		}
	}
	return true
}

func validRequest(r api.Request) bool {
	switch {
	case !fromOne(r.Client), !fromOne(r.Req):
		return false
	case r.Kind < 1, r.Kind > 6:
		return false
	case !validKey(r.Key) && !(r.Key == "" && r.Kind == api.Page):
		return false
	case len(r.Value) > topValue, len(r.Old) > topValue, !validStamp(r.At):
		return false
	case r.Hi != "" && !validKey(r.Hi):
		return false
	case r.Kind == api.Page && r.Limit == 0:
		return false
	}
	return r.Limit >= 0 && r.Limit <= topPage
}

// Things that are not valid.

// badIndexes are no indexes; their keys are from b to m.
func badIndexes() [][]api.Entry {
	return [][]api.Entry{
		append(fullIndex(), entry("f", put(1, "v"))), {entry("d")}, {entry("d", put(1, "v")), entry("d", put(1, "v"))}, {entry("e", put(1, "v")), entry("d", put(1, "v"))},
		{entry("d ", put(1, "v"))}, {entry("d\xff", put(1, "v"))}, {entry("", put(1, "v"))}, {entry("d", put(2, "v"), put(2, "w"))}, {entry("d", put(2, "v"), del(1))},
		{entry("d", put(1, longText))}, {entry("d", api.Version{At: wall(1), Gone: true, Value: "v"})}, {entry("d", put(-1, "v"))}, {entry("d", api.Version{At: at(1, topTick+1, 0)})},
		{entry("c", put(1, "v")), entry("d")}, {entry("d"), entry("e", put(1, "v"))}, {entry("d", append(fullChain(), put(65, "v"))...)},
	}
}

// badTables are no tables.
func badTables() [][]api.Done {
	l := [][]api.Done{
		append(fullTable(), row(90, 5, api.Answer{})), {row(1, 1, api.Answer{}), row(1, 2, api.Answer{})}, {row(2, 1, api.Answer{}), row(1, 2, api.Answer{})},
		{row(1, 1, api.Answer{More: true})}, {row(1, 1, api.Answer{Next: "a"})}, {row(1, 1, api.Answer{Items: []api.Item{{Key: "a"}}})}, {row(1, 1, api.Answer{Value: longText})},
		{row(1, 1, api.Answer{Err: 17})}, {row(1, 1, api.Answer{Err: -1})}, {row(1, 1, api.Answer{At: at(1, 0, 256)})},
		{row(1, 1, api.Answer{}), row(2, 0, api.Answer{})},
	}
	for _, n := range badNumbers {
		l = append(l, []api.Done{row(n, 1, api.Answer{})}, []api.Done{row(1, n, api.Answer{})})
	}
	return l
}

var badSpans = []api.Span{
	{Lo: "b", Hi: "b"}, {Lo: "m", Hi: "b"}, {Lo: " ", Hi: "m"}, {Lo: "b", Hi: "\x7f"}, {Lo: "b\xff", Hi: "m"}, {Lo: "b", Hi: "m\xff"},
	{Lo: "b", Hi: "a b"}, {Lo: strings.Repeat("b", topKey+1), Hi: "m"}, {Lo: "b", Hi: strings.Repeat("m", topKey+1)}, {Lo: " "}, {Hi: " "},
}

// badShards are shards that are not valid, each for one reason: s, which is valid and contains no keys but some from b to m, with one change.
func badShards(s api.Shard) []api.Shard {
	var l []api.Shard
	add := func(change func(s *api.Shard)) {
		bad := clonedShard(s)
		change(&bad)
		l = append(l, bad)
	}
	for _, n := range badNumbers {
		add(func(s *api.Shard) { s.ID = n })
		add(func(s *api.Shard) { s.Epoch = n })
		if n != 0 {
			add(func(s *api.Shard) { s.Hold = n })
			add(func(s *api.Shard) { s.Seen = n })
			add(func(s *api.Shard) { s.Move = n })
			add(func(s *api.Shard) { s.Closed = n })
		}
	}
	for _, phase := range []int{0, 4, 5, -1, -2, 256 + serving, topNum + frozen, math.MaxInt, math.MinInt} {
		add(func(s *api.Shard) { s.Phase = phase })
	}
	for _, bad := range badStamps {
		add(func(s *api.Shard) { s.Mark = bad })
		add(func(s *api.Shard) { s.Top = bad })
	}
	for _, bad := range badSpans {
		add(func(s *api.Shard) { s.Span, s.Entries = bad, nil })
	}
	for _, bad := range badIndexes() {
		add(func(s *api.Shard) { s.Entries = bad })
	}
	for _, bad := range badTables() {
		add(func(s *api.Shard) { s.Done = bad })
	}
	for _, k := range []string{"a", "azzz", "m", "mm", "z", "\U0001f600"} {
		add(func(s *api.Shard) { s.Entries = []api.Entry{entry(k, put(1, "v"))} })
	}
	add(func(s *api.Shard) { s.Entries = append([]api.Entry{entry("a", put(1, "v"))}, s.Entries...) })
	add(func(s *api.Shard) { s.Entries = append(s.Entries, entry("m", put(1, "v"))) })
	return append(l, api.Shard{})
}

// badCells are cells that are not valid, each for one reason.
func badCells() []api.Cell {
	var l []api.Cell
	add := func(change func(c *api.Cell)) { l = append(l, changed(several(), change)) }
	for _, bad := range badShards(shardOf(several(), 2)) {
		add(func(c *api.Cell) { c.Shards[0] = bad })
		if bad.ID == 2 {
			bad.ID = 6
			add(func(c *api.Cell) { c.Shards = slices.Insert(c.Shards, 3, bad) })
			bad.ID = 10
			add(func(c *api.Cell) { c.Shards = append(c.Shards, bad) })
		}
	}
	for _, bad := range badStamps {
		add(func(c *api.Cell) { c.Top = bad })
	}
	for _, n := range badNumbers[1:] {
		add(func(c *api.Cell) { c.Dropped = n })
	}
	for i := range 3 {
		add(func(c *api.Cell) { c.Shards[i].ID = c.Shards[i+1].ID })
		add(func(c *api.Cell) { c.Shards[i+1].ID = c.Shards[i].ID })
		add(func(c *api.Cell) { c.Shards[i], c.Shards[i+1] = c.Shards[i+1], c.Shards[i] })
	}
	add(func(c *api.Cell) { c.Top = at(8, 9, 9) })
	for i, k := range []string{"l", "n", "tt", "x"} {
		for _, s := range []api.Stamp{at(10, 2, 2), at(10, 3, 0), at(11, 0, 0), lastStamp} {
			add(func(c *api.Cell) { c.Shards[i].Entries = []api.Entry{entry(k, put(1, "v"), api.Version{At: s})} })
			add(func(c *api.Cell) { c.Shards[i].Entries = []api.Entry{entry(k, api.Version{At: s, Gone: true})} })
		}
	}
	return append(l, ofLength(topShards+1), ofLength(topShards+2), ofLength(20))
}

// What is wanted of each call.

// wantKept asks that what was lent is as it was before.
func wantKept(t *testing.T, call string, now, before api.Cell) {
	t.Helper()
	if !same(memory(now), before) {
		t.Fatalf("%s has changed its argument %s to %s", call, brief(before), brief(memory(now)))
	}
}

func wantRight(t *testing.T, c api.Cell, want bool) {
	t.Helper()
	l := lent(c)
	before := memory(l)
	if engine.Right(l) != want {
		t.Fatalf("Right(%s) = %v", brief(c), !want)
	}
	wantKept(t, "Right", l, before)
	if validCell(c) != want {
		t.Fatalf("by the chapter, Right(%s) is %v", brief(c), !want)
	}
}

func wantRightShard(t *testing.T, s api.Shard, want bool) {
	t.Helper()
	if engine.RightShard(lentShard(s)) != want {
		t.Fatalf("RightShard(%s) = %v", brief(s), !want)
	}
	if validShard(s) != want {
		t.Fatalf("by the chapter, RightShard(%s) is %v", brief(s), !want)
	}
}

func wantRightRequest(t *testing.T, r api.Request, want bool) {
	t.Helper()
	if engine.RightRequest(r) != want {
		t.Fatalf("RightRequest(%s) = %v", brief(r), !want)
	}
	if validRequest(r) != want {
		t.Fatalf("by the chapter, RightRequest(%s) is %v", brief(r), !want)
	}
}

// P11.1: RightShard

func TestRightShardOfEachNumber(t *testing.T) {
	for _, n := range append([]int{1, 2, 1 << 32, topNum - 1, topNum}, badNumbers...) {
		s := shardOf(several(), 2)
		for _, field := range []*int{&s.ID, &s.Epoch} {
			before := *field
			*field = n
			wantRightShard(t, s, fromOne(n))
			*field = before
		}
		for _, field := range []*int{&s.Hold, &s.Seen, &s.Move, &s.Closed} {
			before := *field
			*field = n
			wantRightShard(t, s, fromZero(n))
			*field = before
		}
	}
}

func TestRightShardOfEachPhase(t *testing.T) {
	for phase := -3; phase < 300; phase++ {
		for _, s := range several().Shards {
			s.Phase = phase
			wantRightShard(t, s, phase >= 1 && phase <= 3)
		}
	}
}

func TestRightShardWithOneFault(t *testing.T) {
	for _, s := range append(several().Shards, incoming(), api.Shard{ID: 1, Epoch: 1, Phase: ready}) {
		wantRightShard(t, s, true)
		s.Span, s.Entries = api.Span{Lo: "b", Hi: "m"}, nil
		wantRightShard(t, s, true)
		for _, bad := range badShards(s) {
			wantRightShard(t, bad, false)
		}
	}
}

func TestRightShardAtTheEndsOfTheSpan(t *testing.T) {
	bounds := []string{"", "!", "b", "bb", "m", "\U0010ffff"}
	keys := []string{"!", "a", "azzz", "b", "b!", "ba", "bb", "bbb", "lzzz", "m", "m!", "z", "\u00e9", "\U0010ffff", "\U0010ffff!"}
	for _, lo := range bounds {
		for _, hi := range bounds {
			s := api.Shard{ID: 1, Epoch: 1, Phase: serving, Span: api.Span{Lo: lo, Hi: hi}}
			right := hi == "" || lo < hi
			wantRightShard(t, s, right)
			for _, k := range keys {
				s.Entries = []api.Entry{entry(k, put(1, "v"))}
				wantRightShard(t, s, right && liesIn(k, lo, hi))
			}
		}
	}
	s := api.Shard{ID: 1, Epoch: 1, Phase: serving, Span: api.Span{Lo: "b", Hi: "m"}}
	for _, keys := range [][]string{{"b", "c", "l"}, {"a", "b", "c"}, {"b", "c", "m"}, {"a", "c", "m"}, {"b", "m", "n"}, {"a", "aa", "b"}} {
		s.Entries = nil
		for _, k := range keys {
			s.Entries = append(s.Entries, entry(k, put(1, "v")))
		}
		wantRightShard(t, s, keys[0] == "b" && keys[2] == "l")
	}
}

func TestRightShardOfFullLists(t *testing.T) {
	s := api.Shard{ID: topNum, Epoch: topNum, Phase: frozen, Entries: fullIndex(), Mark: lastStamp, Top: lastStamp, Done: fullTable(), Hold: topNum, Seen: topNum, Move: topNum, Closed: topNum}
	for i := range s.Entries {
		s.Entries[i].Chain = fullChain()
	}
	wantRightShard(t, s, true)
	s.Entries = append(s.Entries, entry("f", put(1, "v")))
	wantRightShard(t, s, false)
}

// A shard's own Top does not bind its versions.
func TestRightShardWithVersionsLaterThanItsTop(t *testing.T) {
	for _, s := range several().Shards {
		s.Top = api.Stamp{}
		wantRightShard(t, s, true)
	}
}

// P11.1: Right

func TestRightAtEachLength(t *testing.T) {
	wantRight(t, api.Cell{}, true)
	wantRight(t, api.Cell{Shards: []api.Shard{}}, true)
	for n := range 20 {
		wantRight(t, ofLength(n), n <= topShards)
	}
	wantRight(t, lone(), true)
	wantRight(t, several(), true)
}

func TestRightOfIDs(t *testing.T) {
	for _, ids := range [][]int{
		{1}, {topNum}, {1, 2}, {1, topNum}, {1, 2, 3}, {5, 7, 9, 1000}, {1, 2, 3, 4, 5, 6, 7, 8}, {topNum - 1, topNum},
		{0}, {-1}, {topNum + 1}, {0, 1}, {-1, 1}, {1, topNum + 1}, {1, 1}, {2, 1}, {1, 1, 2}, {1, 2, 2}, {2, 1, 3}, {1, 3, 2}, {3, 2, 1}, {1, 2, 1}, {2, 3, 1},
		{1, 2, 3, 4, 5, 6, 7, 7}, {1, 1, 3, 4, 5, 6, 7, 8}, {1, 2, 3, 4, 4, 6, 7, 8}, {1, 2, 3, 5, 4, 6, 7, 8}, {2, 1, 3, 4, 5, 6, 7, 8}, {1, 2, 3, 4, 5, 6, 8, 7}, {8, 7, 6, 5, 4, 3, 2, 1},
	} {
		c := ofLength(len(ids))
		rising := true
		for i, id := range ids {
			c.Shards[i].ID = id
			rising = rising && fromOne(id) && (i == 0 || ids[i-1] < id)
		}
		wantRight(t, c, rising)
	}
}

func TestRightOfTopAndDropped(t *testing.T) {
	for _, c := range []api.Cell{{}, lone()} {
		for _, s := range []api.Stamp{{}, wall(topNum), at(0, topTick, 0), at(0, 0, topNode), lastStamp} {
			c.Top = s
			wantRight(t, c, true)
		}
		for _, s := range badStamps {
			c.Top = s
			wantRight(t, c, false)
		}
		c.Top = api.Stamp{}
		for _, n := range append([]int{1, 2, topNum - 1, topNum}, badNumbers...) {
			c.Dropped = n
			wantRight(t, c, n == 0 || fromOne(n))
		}
	}
}

func TestRightWithVersionsAtTop(t *testing.T) {
	top := at(10, 2, 1)
	for _, s := range []api.Stamp{{}, at(9, 9, 9), at(10, 1, 9), at(10, 2, 0), top, at(10, 2, 2), at(10, 3, 0), at(11, 0, 0), lastStamp} {
		for n := 1; n <= topShards; n++ {
			for _, i := range []int{0, n / 2, n - 1} {
				c := ofLength(n)
				c.Top = top
				c.Shards[i].Entries[0].Chain = []api.Version{{At: s}}
				wantRight(t, c, order(s, top) <= 0)
				c.Shards[i].Entries = []api.Entry{entry(letter(i)+"a", put(1, "v")), entry(letter(i)+"b", api.Version{At: s, Gone: true}), entry(letter(i)+"c", put(2, "v"))}
				wantRight(t, c, order(s, top) <= 0)
				c.Shards[i].Entries = []api.Entry{entry(letter(i)+"a", api.Version{At: s}), entry(letter(i)+"b", put(1, "v"))}
				wantRight(t, c, order(s, top) <= 0)
			}
		}
	}
	c := several()
	c.Top = wall(9)
	wantRight(t, c, true)
	c.Top = at(8, topTick, topNode)
	wantRight(t, c, false)
}

func TestRightWithOneFault(t *testing.T) {
	for _, c := range badCells() {
		wantRight(t, c, false)
	}
}

// Spans may overlap, the Top of a shard may be later than that of the cell, and so may a Mark or the stamp of an answer: the chapter names no bond between them.
func TestRightWithoutBonds(t *testing.T) {
	c := lone()
	c.Shards = append(c.Shards, api.Shard{ID: 2, Epoch: 1, Phase: ready, Mark: lastStamp, Top: lastStamp, Done: []api.Done{row(1, 1, api.Answer{At: lastStamp})}, Hold: 9, Seen: 10})
	wantRight(t, c, true)
}

// P11.1: RightRequest

func request(kind int) api.Request {
	return api.Request{Client: 3, Req: 4, Kind: kind, Key: "d", Value: "v", Had: true, Old: "o", At: wall(5), Hi: "m", Limit: 2}
}

func eachKind(f func(r api.Request)) {
	for kind := 1; kind <= 6; kind++ {
		f(request(kind))
	}
}

func TestRightRequestOfEachKind(t *testing.T) {
	for kind := -3; kind < 300; kind++ {
		wantRightRequest(t, request(kind), kind >= 1 && kind <= 6)
	}
	for _, kind := range []int{math.MinInt, math.MaxInt, 1<<32 + 1, topNum + 1} {
		wantRightRequest(t, request(kind), false)
	}
	wantRightRequest(t, api.Request{}, false)
}

func TestRightRequestOfClientAndReq(t *testing.T) {
	eachKind(func(r api.Request) {
		for _, n := range append([]int{1, 2, 1 << 32, topNum - 1, topNum}, badNumbers...) {
			x := r
			x.Client = n
			wantRightRequest(t, x, fromOne(n))
			x = r
			x.Req = n
			wantRightRequest(t, x, fromOne(n))
		}
	})
}

func TestRightRequestOfKeysAndHis(t *testing.T) {
	good := []string{"!", "a", "zz", strings.Repeat("a", topKey), strings.Repeat("\u00e9", topKey/2), "\ufffd", "\U0010ffff"}
	eachKind(func(r api.Request) {
		for _, k := range good {
			x := r
			x.Key = k
			wantRightRequest(t, x, true)
			x = r
			x.Hi = k
			wantRightRequest(t, x, true)
			x.Key = ""
			wantRightRequest(t, x, r.Kind == api.Page)
		}
		for _, k := range badKeys {
			x := r
			x.Key = k
			wantRightRequest(t, x, false)
			x = r
			x.Hi = k
			wantRightRequest(t, x, false)
		}
		r.Hi = ""
		wantRightRequest(t, r, true)
		r.Key = ""
		wantRightRequest(t, r, r.Kind == api.Page)
	})
}

func TestRightRequestOfTexts(t *testing.T) {
	eachKind(func(r api.Request) {
		for n := range 40 {
			for _, text := range []string{strings.Repeat("v", n), strings.Repeat("\x00", n), strings.Repeat("\xff", n)} {
				x := r
				x.Value = text
				wantRightRequest(t, x, n <= topValue)
				x = r
				x.Old = text
				wantRightRequest(t, x, n <= topValue)
				x.Had = false
				wantRightRequest(t, x, n <= topValue)
			}
		}
		r.Value = strings.Repeat("\u00e9", topValue)
		wantRightRequest(t, r, false)
	})
}

func TestRightRequestOfStamps(t *testing.T) {
	eachKind(func(r api.Request) {
		for _, s := range []api.Stamp{{}, wall(topNum), at(0, topTick, 0), at(0, 0, topNode), lastStamp} {
			r.At = s
			wantRightRequest(t, r, true)
		}
		for _, s := range badStamps {
			r.At = s
			wantRightRequest(t, r, false)
		}
	})
}

func TestRightRequestOfLimits(t *testing.T) {
	eachKind(func(r api.Request) {
		for limit := -10; limit < 30; limit++ {
			r.Limit = limit
			wantRightRequest(t, r, limit >= 0 && limit <= topPage && (limit > 0 || r.Kind != api.Page))
		}
		for _, limit := range []int{math.MinInt, math.MaxInt, 256, 257, 1<<32 + 1} {
			r.Limit = limit
			wantRightRequest(t, r, false)
		}
	})
}

// P11.1: Find

func wantFind(t *testing.T, c api.Cell, id int, want api.Shard, wantOK bool) {
	t.Helper()
	l := lent(c)
	before := memory(l)
	s, ok := engine.Find(l, id)
	if !sameShard(s, want) || ok != wantOK {
		t.Fatalf("Find(%s, %d) = %s, %v, want %s, %v", brief(c), id, brief(s), ok, brief(want), wantOK)
	}
	scribble(api.Cell{Shards: []api.Shard{s}})
	wantKept(t, "Find", l, before)
}

// scribble writes to all lists of a cell, and behind their ends.
func scribble(c api.Cell) {
	for _, s := range c.Shards {
		for _, e := range s.Entries {
			for k := range e.Chain {
				e.Chain[k] = put(99, "mine")
			}
			_ = append(e.Chain, put(99, "mine"))
		}
		for j := range s.Entries {
			s.Entries[j] = entry("mine")
		}
		_ = append(s.Entries, entry("mine"))
		for j := range s.Done {
			_ = append(s.Done[j].Answer.Items, api.Item{Key: "mine"})
			s.Done[j] = row(99, 99, api.Answer{})
		}
		_ = append(s.Done, row(99, 99, api.Answer{}))
	}
	for i := range c.Shards {
		c.Shards[i] = api.Shard{ID: 99}
	}
	_ = append(c.Shards, api.Shard{ID: 99})
}

func TestFindOfEachShard(t *testing.T) {
	for id := -5; id < 20; id++ {
		switch id {
		case 2, 4, 5, 9:
			wantFind(t, several(), id, shardOf(several(), id), true)
		default:
			wantFind(t, several(), id, api.Shard{}, false)
		}
		wantFind(t, api.Cell{}, id, api.Shard{}, false)
	}
	for n := range topShards + 1 {
		c := ofLength(n)
		for id := range 10*topShards + 20 {
			if id%10 == 0 && id >= 10 && id <= 10*n {
				wantFind(t, c, id, c.Shards[id/10-1], true)
			} else {
				wantFind(t, c, id, api.Shard{}, false)
			}
		}
		for _, id := range badNumbers {
			wantFind(t, c, id, api.Shard{}, false)
		}
	}
}

func TestFindInCellsThatAreNotValid(t *testing.T) {
	for _, c := range badCells() {
		for _, s := range c.Shards {
			wantFind(t, c, s.ID, api.Shard{}, false)
		}
		wantFind(t, c, 4, api.Shard{}, false)
	}
}
