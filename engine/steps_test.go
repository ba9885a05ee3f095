package engine_test

import (
	"fmt"
	"math"
	"slices"
	"strings"
	"testing"

	"stratigraph/api"
	"stratigraph/engine"
)

// step is a call of one of the functions of P11.3 to P11.7, with those of its arguments that it has.
type step struct {
	name                                string
	id, epoch, lease, move, other, next int
	key                                 string
	stamp                               api.Stamp
	shard                               api.Shard
}

func hold(id, epoch, lease int) step { return step{name: "Hold", id: id, epoch: epoch, lease: lease} }
func free(id, lease int, s api.Stamp) step {
	return step{name: "Free", id: id, lease: lease, stamp: s}
}
func freeze(id, epoch, move int) step { return step{name: "Freeze", id: id, epoch: epoch, move: move} }
func thaw(id, move int) step          { return step{name: "Thaw", id: id, move: move} }
func retire(id, move int) step        { return step{name: "Retire", id: id, move: move} }
func install(s api.Shard, move int) step {
	return step{name: "Install", shard: s, move: move}
}
func serve(id, move, epoch int) step { return step{name: "Serve", id: id, move: move, epoch: epoch} }
func drop(id, move int) step         { return step{name: "Drop", id: id, move: move} }
func split(id, epoch int, key string, other, next int) step {
	return step{name: "Split", id: id, epoch: epoch, key: key, other: other, next: next}
}
func merge(id, other, epoch, next int) step {
	return step{name: "Merge", id: id, other: other, epoch: epoch, next: next}
}
func raise(s api.Stamp) step { return step{name: "Raise", stamp: s} }
func prune(s api.Stamp) step { return step{name: "Prune", stamp: s} }

// run makes the call. For Raise and Prune, which tell no bool, it answers false if the cell is as it was.
func (x step) run(c api.Cell) (api.Cell, bool) {
	switch x.name {
	case "Hold":
		return engine.Hold(c, x.id, x.epoch, x.lease)
	case "Free":
		return engine.Free(c, x.id, x.lease, x.stamp)
	case "Freeze":
		return engine.Freeze(c, x.id, x.epoch, x.move)
	case "Thaw":
		return engine.Thaw(c, x.id, x.move)
	case "Retire":
		return engine.Retire(c, x.id, x.move)
	case "Install":
		return engine.Install(c, x.shard, x.move)
	case "Serve":
		return engine.Serve(c, x.id, x.move, x.epoch)
	case "Drop":
		return engine.Drop(c, x.id, x.move)
	case "Split":
		return engine.Split(c, x.id, x.epoch, x.key, x.other, x.next)
	case "Merge":
		return engine.Merge(c, x.id, x.other, x.epoch, x.next)
	}
	before := cloned(c)
	if x.name == "Raise" {
		c = engine.Raise(c, x.stamp)
	} else {
		c = engine.Prune(c, x.stamp)
	}
	return c, !same(c, before)
}

// numbers are the fields of the numbers that the function has.
func (x *step) numbers() []*int {
	switch x.name {
	case "Hold":
		return []*int{&x.id, &x.epoch, &x.lease}
	case "Free":
		return []*int{&x.id, &x.lease}
	case "Freeze":
		return []*int{&x.id, &x.epoch, &x.move}
	case "Thaw", "Retire", "Drop":
		return []*int{&x.id, &x.move}
	case "Install":
		return []*int{&x.move}
	case "Serve":
		return []*int{&x.id, &x.move, &x.epoch}
	case "Split":
		return []*int{&x.id, &x.epoch, &x.other, &x.next}
	case "Merge":
		return []*int{&x.id, &x.other, &x.epoch, &x.next}
	}
	return nil
}

func (x step) hasStamp() bool {
	return x.name == "Free" || x.name == "Raise" || x.name == "Prune"
}

func (x step) String() string {
	text := x.name
	for _, n := range x.numbers() {
		text += fmt.Sprintf(" %d", *n)
	}
	if x.hasStamp() {
		text += fmt.Sprint(" ", x.stamp)
	}
	if x.name == "Split" {
		text += fmt.Sprintf(" %q", x.key)
	}
	if x.name == "Install" {
		text += brief(x.shard)
	}
	return text
}

// What the chapter says of each step, in its words.

// model is a cell whose shards are found by their IDs.
type model struct {
	shards  map[int]api.Shard
	top     api.Stamp
	dropped int
}

func opened(c api.Cell) model {
	m := model{shards: map[int]api.Shard{}, top: c.Top, dropped: c.Dropped}
	for _, s := range cloned(c).Shards {
		m.shards[s.ID] = s
	}
	return m
}

func (m model) closed() api.Cell {
	c := api.Cell{Top: m.top, Dropped: m.dropped}
	var ids []int
	for id := range m.shards {
		ids = append(ids, id)
	}
	slices.Sort(ids)
	for _, id := range ids {
		c.Shards = append(c.Shards, m.shards[id])
	}
	return c
}

func (m model) has(id int) bool {
	_, there := m.shards[id]
	return there
}

func meant(c api.Cell, x step) (api.Cell, bool) {
	if !validCell(c) || x.hasStamp() && !validStamp(x.stamp) {
		return c, false
	}
	for _, n := range x.numbers() {
		if !fromOne(*n) {
			return c, false
		}
	}
	m := opened(c)
	s, there := m.shards[x.id], m.has(x.id)
	var ok, effect bool
	switch x.name {
	case "Hold":
		ok = there && s.Epoch == x.epoch && s.Phase == serving && s.Seen < x.lease && (s.Hold == 0 || s.Hold == x.lease)
		effect = ok
		s.Hold = x.lease
	case "Free":
		ok = there
		effect = there && s.Seen < x.lease
		s.Seen = x.lease
		if s.Hold == x.lease {
			s.Hold = 0
		}
		m.top = laterOf(m.top, x.stamp)
	case "Freeze":
		frozenAlready := there && s.Phase == frozen && s.Move == x.move
		effect = there && s.Epoch == x.epoch && s.Phase == serving && s.Hold == 0 && s.Closed < x.move
		ok = frozenAlready || effect
		s.Phase, s.Move, s.Top = frozen, x.move, m.top
	case "Thaw":
		ok = there
		effect = there && s.Closed < x.move && !(s.Phase == frozen && s.Move != x.move)
		s.Closed = x.move
		if s.Phase == frozen {
			s.Phase = serving
		}
	default:
		return meantOfMoves(c, m, x)
	}
	if !effect {
		return c, ok
	}
	m.shards[x.id] = s
	return m.closed(), true
}

func meantOfMoves(c api.Cell, m model, x step) (api.Cell, bool) {
	s, there := m.shards[x.id], m.has(x.id)
	switch x.name {
	case "Retire":
		if !there {
			return c, true
		}
		if s.Phase != frozen || s.Move != x.move {
			return c, false
		}
		delete(m.shards, x.id)
		return m.closed(), true
	case "Install":
		s = x.shard
		if old, there := m.shards[s.ID]; there {
			return c, old.Phase == ready && old.Move == x.move
		}
		if x.move <= m.dropped || len(m.shards) == topShards || !validShard(s) {
			return c, false
		}
		if s.Phase != frozen || s.Move != x.move || order(latest(s), s.Top) > 0 {
			return c, false
		}
		s.Phase = ready
		m.shards[s.ID] = s
		m.top = laterOf(m.top, s.Top)
		return m.closed(), true
	case "Serve":
		if there && s.Phase == serving && s.Epoch == x.epoch && s.Closed == x.move {
			return c, true
		}
		if !there || s.Phase != ready || s.Move != x.move || x.epoch <= s.Epoch {
			return c, false
		}
		s.Phase, s.Epoch, s.Closed = serving, x.epoch, x.move
		m.shards[x.id] = s
		m.dropped = max(m.dropped, x.move)
		return m.closed(), true
	case "Drop":
		m.dropped = max(m.dropped, x.move)
		if there && s.Phase == ready && s.Move == x.move {
			delete(m.shards, x.id)
		}
		return m.closed(), true
	}
	return meantOfShapes(c, m, x)
}

func meantOfShapes(c api.Cell, m model, x step) (api.Cell, bool) {
	s, there := m.shards[x.id], m.has(x.id)
	o, other := m.shards[x.other], m.has(x.other)
	switch x.name {
	case "Split":
		if there && s.Epoch == x.next && s.Span.Hi == x.key && other && o.Epoch == x.next {
			return c, true
		}
		if !there || s.Epoch != x.epoch || s.Phase != serving || s.Hold != 0 || s.Closed >= x.next || x.next <= x.epoch || other || len(m.shards) >= topShards {
			return c, false
		}
		if !validKey(x.key) || x.key <= s.Span.Lo || !liesIn(x.key, s.Span.Lo, s.Span.Hi) {
			return c, false
		}
		low, high := clonedShard(s), clonedShard(s)
		low.Epoch, high.Epoch, high.ID = x.next, x.next, x.other
		low.Span.Hi, high.Span.Lo = x.key, x.key
		low.Entries = slices.DeleteFunc(low.Entries, func(e api.Entry) bool { return e.Key >= x.key })
		high.Entries = slices.DeleteFunc(high.Entries, func(e api.Entry) bool { return e.Key < x.key })
		m.shards[x.id], m.shards[x.other] = low, high
	case "Merge":
		if there && s.Epoch == x.next && !other {
			return c, true
		}
		if !there || !other || s.Phase != serving || o.Phase != serving || s.Hold != 0 || o.Hold != 0 || s.Epoch != x.epoch {
			return c, false
		}
		if x.next <= s.Epoch || x.next <= o.Epoch || x.next <= s.Closed {
			return c, false
		}
		merged, ok := mergedShards(s, o)
		if !ok {
			return c, false
		}
		merged.Epoch = x.next
		m.shards[x.id] = merged
		delete(m.shards, x.other)
	case "Raise":
		m.top = laterOf(m.top, x.stamp)
	case "Prune":
		for id, s := range m.shards {
			s.Entries = prunedEntries(s.Entries, x.stamp)
			s.Mark = laterOf(s.Mark, x.stamp)
			m.shards[id] = s
		}
	default:
		panic("no such step")
	}
	after := m.closed()
	return after, x.name == "Split" || x.name == "Merge" || !same(after, c)
}

// mergedShards is a, with what b has, and whether there can be such a shard.
func mergedShards(a, b api.Shard) (api.Shard, bool) {
	if a.Span.Hi == "" || a.Span.Hi != b.Span.Lo || len(a.Entries)+len(b.Entries) > topEntries {
		return api.Shard{}, false
	}
	rows := map[int]api.Done{}
	for _, d := range slices.Concat(a.Done, b.Done) {
		if old, there := rows[d.Client]; !there || old.Req < d.Req {
			rows[d.Client] = d
		}
	}
	if len(rows) > topClients {
		return api.Shard{}, false
	}
	a.Done = nil
	for _, d := range rows {
		a.Done = append(a.Done, d)
	}
	slices.SortFunc(a.Done, func(d, e api.Done) int { return d.Client - e.Client })
	a.Span.Hi = b.Span.Hi
	a.Mark = laterOf(a.Mark, b.Mark)
	a.Entries = prunedEntries(slices.Concat(a.Entries, b.Entries), a.Mark)
	a.Seen, a.Closed, a.Move = max(a.Seen, b.Seen), max(a.Closed, b.Closed), 0
	return a, true
}

// prunedEntries is ix without what nobody reads from mark on.
func prunedEntries(ix []api.Entry, mark api.Stamp) []api.Entry {
	var kept []api.Entry
	for _, e := range ix {
		var c []api.Version
		for i, v := range e.Chain {
			last := i == len(e.Chain)-1 || order(e.Chain[i+1].At, mark) > 0
			if order(v.At, mark) > 0 || last && !v.Gone {
				c = append(c, v)
			}
		}
		if len(c) > 0 {
			kept = append(kept, api.Entry{Key: e.Key, Chain: c})
		}
	}
	return kept
}

// What is wanted of each step.

func wantStep(t *testing.T, c api.Cell, x step, want api.Cell, wantOK bool) {
	t.Helper()
	l, arg := lent(c), x
	arg.shard = lentShard(x.shard)
	before, shardBefore := memory(l), shardMemory(arg.shard)
	got, ok := arg.run(l)
	if !same(got, want) || ok != wantOK {
		t.Fatalf("%s of\n%s is\n%s, %v, want\n%s, %v", x, brief(c), brief(got), ok, brief(want), wantOK)
	}
	wantKept(t, x.name, l, before)
	// What is not the unchanged argument is new.
	if !same(got, c) {
		scribble(got)
		wantKept(t, x.name+", written to,", l, before)
	}
	if !sameShard(shardMemory(arg.shard), shardBefore) {
		t.Errorf("%s has changed the shard %s to %s", x, brief(shardBefore), brief(shardMemory(arg.shard)))
	}
}

func wantRefused(t *testing.T, c api.Cell, x step) {
	t.Helper()
	wantStep(t, c, x, c, false)
	wantByDefinition(t, c, x)
}

func wantNoEffect(t *testing.T, c api.Cell, x step) {
	t.Helper()
	wantStep(t, c, x, c, true)
	wantByDefinition(t, c, x)
}

func wantEffect(t *testing.T, c api.Cell, x step, want api.Cell) {
	t.Helper()
	if same(c, want) {
		t.Errorf("%s is to have an effect on %s", x, brief(c))
	}
	wantStep(t, c, x, want, true)
	wantByDefinition(t, c, x)
}

func wantByDefinition(t *testing.T, c api.Cell, x step) {
	t.Helper()
	want, ok := meant(c, x)
	wantStep(t, c, x, want, ok)
}

// wantEffectOn is wantEffect with one change to the shard x.id alone.
func wantEffectOn(t *testing.T, c api.Cell, x step, change func(s *api.Shard)) {
	t.Helper()
	wantEffect(t, c, x, altered(c, x.id, change))
}

// P11.1

// effective are steps that have an effect on the cell of four shards.
func effective() []step {
	return []step{
		hold(2, 3, 5), free(2, 5, wall(12)), freeze(2, 3, 7), thaw(5, 21), thaw(2, 7), retire(5, 21), install(incoming(), 30), serve(9, 22, 7), drop(9, 22), drop(1, 8),
		split(2, 3, "e", 7, 8), merge(2, 4, 3, 7), raise(wall(12)), prune(wall(4)),
	}
}

// idle are steps that are answered by true, but have no effect on the cell of four shards.
func idle() []step {
	s := incoming()
	s.ID = 9
	return []step{
		free(2, 4, wall(12)), freeze(5, 2, 21), thaw(2, 6), thaw(5, 22), retire(1, 21), install(s, 22), serve(2, 6, 3), drop(1, 7), drop(9, 7), merge(2, 3, 1, 3), merge(9, 1, 2, 6),
	}
}

func TestTheSampleSteps(t *testing.T) {
	for _, x := range effective() {
		c, ok := x.run(several())
		if !ok || same(c, several()) || !engine.Right(c) {
			t.Errorf("%s of %s is %s, %v", x, brief(several()), brief(c), ok)
		}
		wantByDefinition(t, several(), x)
	}
	for _, x := range idle() {
		wantNoEffect(t, several(), x)
	}
}

func TestStepsOfCellsThatAreNotValid(t *testing.T) {
	for _, c := range badCells() {
		for _, x := range slices.Concat(effective(), idle()) {
			wantRefused(t, c, x)
		}
	}
}

func TestStepsWithNumbersThatAreNone(t *testing.T) {
	c, _ := engine.Split(several(), 2, 3, "e", 7, 8)
	wantNoEffect(t, c, split(2, 5, "e", 7, 8))
	for _, c := range []api.Cell{several(), c, {}, lone()} {
		for _, x := range append(slices.Concat(effective(), idle()), split(2, 5, "e", 7, 8)) {
			for i := range x.numbers() {
				for _, n := range badNumbers {
					bad := x
					*bad.numbers()[i] = n
					wantRefused(t, c, bad)
				}
			}
		}
	}
}

// No move has the number 0, though the Move and the Closed of a shard may have.
func TestStepsOfNoMove(t *testing.T) {
	c := altered(several(), 2, func(s *api.Shard) { s.Move, s.Closed, s.Seen = 0, 0, 0 })
	c = altered(altered(c, 5, func(s *api.Shard) { s.Move, s.Closed = 0, 0 }), 9, func(s *api.Shard) { s.Move, s.Closed = 0, 0 })
	c.Dropped = 0
	in := incoming()
	in.Move = 0
	again := incoming()
	again.ID, again.Move = 9, 0
	for _, x := range []step{
		hold(2, 3, 0), free(2, 0, wall(12)), freeze(2, 3, 0), freeze(5, 2, 0), thaw(2, 0), thaw(5, 0), thaw(9, 0), retire(1, 0), retire(5, 0),
		install(in, 0), install(again, 0), install(shardOf(c, 9), 0), serve(2, 0, 3), serve(9, 0, 7), drop(1, 0), drop(9, 0),
	} {
		wantRefused(t, c, x)
	}
}

func TestStepsWithStampsThatAreNotValid(t *testing.T) {
	for _, c := range []api.Cell{several(), {}, lone(), ofLength(topShards)} {
		for _, s := range badStamps {
			for _, x := range []step{free(2, 5, s), free(2, 4, s), free(3, 4, s), free(10, 4, s), raise(s), prune(s)} {
				wantRefused(t, c, x)
			}
		}
	}
}

func TestStepsWithTheGreatestNumbers(t *testing.T) {
	c := several()
	c.Shards[3].ID = topNum
	wantEffectOn(t, c, hold(2, 3, topNum), func(s *api.Shard) { s.Hold = topNum })
	wantEffectOn(t, c, freeze(2, 3, topNum), func(s *api.Shard) { s.Phase, s.Move, s.Top = frozen, topNum, c.Top })
	wantEffectOn(t, c, thaw(2, topNum), func(s *api.Shard) { s.Closed = topNum })
	wantEffectOn(t, c, free(topNum, topNum, wall(1)), func(s *api.Shard) { s.Seen = topNum })
	want := altered(c, topNum, func(s *api.Shard) { s.Phase, s.Epoch, s.Closed = serving, topNum, 22 })
	want.Dropped = 22
	wantEffect(t, c, serve(topNum, 22, topNum), want)
	want = changed(c, func(c *api.Cell) { c.Dropped = topNum })
	wantEffect(t, c, drop(1, topNum), want)
	want = changed(c, func(c *api.Cell) { c.Top = lastStamp })
	wantEffect(t, c, raise(lastStamp), want)
	want, ok := engine.Split(several(), 2, 3, "e", topNum, topNum)
	if !ok || want.Shards[4].ID != topNum || want.Shards[4].Epoch != topNum || want.Shards[0].Epoch != topNum || !engine.Right(want) {
		t.Errorf("Split into a shard of the greatest ID: %s", brief(want))
	}
	last := incoming()
	last.ID, last.Move, last.Top = topNum, topNum, lastStamp
	in, ok := engine.Install(several(), last, topNum)
	if !ok || in.Top != lastStamp || in.Shards[4].ID != topNum || !engine.Right(in) {
		t.Errorf("Install of a shard of the greatest ID: %s", brief(in))
	}
	merged, ok := engine.Merge(several(), 2, 4, 3, topNum)
	if !ok || merged.Shards[0].Epoch != topNum || !engine.Right(merged) {
		t.Errorf("Merge with the greatest epoch: %s", brief(merged))
	}
}

// P11.3

func TestHold(t *testing.T) {
	c := several()
	held := func(lease int) func(s *api.Shard) { return func(s *api.Shard) { s.Hold = lease } }
	wantEffectOn(t, c, hold(2, 3, 5), held(5))
	wantEffectOn(t, c, hold(2, 3, 6), held(6))
	wantEffectOn(t, c, hold(4, 4, 4), held(4))
	wantRefused(t, c, hold(2, 3, 4))
	wantRefused(t, c, hold(2, 3, 3))
	wantRefused(t, c, hold(4, 4, 3))
	for _, epoch := range []int{1, 2, 4, 5, topNum} {
		wantRefused(t, c, hold(2, epoch, 5))
	}
	for _, id := range []int{1, 3, 6, 8, 10, topNum} {
		wantRefused(t, c, hold(id, 3, 5))
	}
	wantRefused(t, c, hold(5, 2, 3))
	wantRefused(t, c, hold(5, 2, 5))
	wantRefused(t, c, hold(9, 6, 10))
	wantRefused(t, altered(c, 9, held(0)), hold(9, 6, 10))
	wantRefused(t, altered(c, 5, held(0)), hold(5, 2, 10))
	wantRefused(t, api.Cell{}, hold(1, 1, 1))
}

func TestHoldOfAHeldShard(t *testing.T) {
	for _, by := range []int{1, 5, 6, 7, topNum} {
		c := altered(several(), 2, func(s *api.Shard) { s.Hold = by })
		for _, lease := range []int{5, 6, 7, 8, topNum} {
			if by == lease {
				wantNoEffect(t, c, hold(2, 3, lease))
			} else {
				wantRefused(t, c, hold(2, 3, lease))
			}
		}
		wantRefused(t, c, hold(2, 4, by))
	}
	// Where it was freed for the very snapshot that holds it, or for a greater one.
	for _, seen := range []int{6, 7} {
		c := altered(several(), 2, func(s *api.Shard) { s.Hold, s.Seen = 6, seen })
		wantRefused(t, c, hold(2, 3, 6))
	}
}

func TestFree(t *testing.T) {
	c := several()
	for _, top := range []api.Stamp{{}, wall(10), at(10, 2, 0), at(10, 2, 1)} {
		wantEffectOn(t, c, free(2, 5, top), func(s *api.Shard) { s.Seen = 5 })
	}
	for _, top := range []api.Stamp{at(10, 2, 2), at(10, 3, 0), at(11, 0, 0), lastStamp} {
		want := altered(c, 2, func(s *api.Shard) { s.Seen = 5 })
		want.Top = top
		wantEffect(t, c, free(2, 5, top), want)
	}
	for _, top := range []api.Stamp{{}, wall(10), wall(11), lastStamp} {
		for _, lease := range []int{1, 3, 4} {
			wantNoEffect(t, c, free(2, lease, top))
		}
		for _, id := range []int{1, 3, 6, 10, topNum} {
			wantRefused(t, c, free(id, 5, top))
		}
		wantRefused(t, api.Cell{}, free(1, 1, top))
	}
}

func TestFreeOfAHeldShard(t *testing.T) {
	for _, by := range []int{0, 1, 4, 5, 6, topNum} {
		c := altered(several(), 2, func(s *api.Shard) { s.Hold = by })
		for _, lease := range []int{5, 6, topNum} {
			want := altered(c, 2, func(s *api.Shard) {
				s.Seen = lease
				if by == lease {
					s.Hold = 0
				}
			})
			want.Top = wall(12)
			wantEffect(t, c, free(2, lease, wall(12)), want)
		}
		wantNoEffect(t, c, free(2, 4, wall(12)))
	}
	// Also where its phase is another one.
	wantEffectOn(t, several(), free(5, 3, wall(1)), func(s *api.Shard) { s.Hold, s.Seen = 0, 3 })
	wantEffectOn(t, several(), free(9, 10, wall(1)), func(s *api.Shard) { s.Seen = 10 })
	wantNoEffect(t, several(), free(9, 1, wall(12)))
}

// P11.4

func TestFreeze(t *testing.T) {
	c := several()
	for _, move := range []int{7, 8, 22, topNum} {
		wantEffectOn(t, c, freeze(2, 3, move), func(s *api.Shard) { s.Phase, s.Move, s.Top = frozen, move, at(10, 2, 1) })
	}
	wantEffectOn(t, c, freeze(4, 4, 6), func(s *api.Shard) { s.Phase, s.Move, s.Top = frozen, 6, at(10, 2, 1) })
	for _, move := range []int{1, 5, 6} {
		wantRefused(t, c, freeze(2, 3, move))
	}
	for _, epoch := range []int{1, 2, 4, topNum} {
		wantRefused(t, c, freeze(2, epoch, 7))
	}
	for _, id := range []int{1, 3, 6, 10, topNum} {
		wantRefused(t, c, freeze(id, 3, 7))
	}
	for _, by := range []int{1, 4, 7, topNum} {
		wantRefused(t, altered(c, 2, func(s *api.Shard) { s.Hold = by }), freeze(2, 3, 7))
	}
	wantRefused(t, altered(c, 9, func(s *api.Shard) { s.Hold = 0 }), freeze(9, 6, 22))
	wantRefused(t, altered(c, 9, func(s *api.Shard) { s.Hold = 0 }), freeze(9, 6, 23))
	wantRefused(t, api.Cell{}, freeze(1, 1, 1))
	// A Top that is later than the cell's is replaced by it as well.
	late := altered(c, 2, func(s *api.Shard) { s.Top = lastStamp })
	wantEffectOn(t, late, freeze(2, 3, 7), func(s *api.Shard) { s.Phase, s.Move, s.Top = frozen, 7, at(10, 2, 1) })
}

func TestFreezeOfAFrozenShard(t *testing.T) {
	c := several()
	for _, epoch := range []int{1, 2, 3, topNum} {
		wantNoEffect(t, c, freeze(5, epoch, 21))
		for _, move := range []int{1, 19, 20, 22, topNum} {
			wantRefused(t, c, freeze(5, epoch, move))
			wantRefused(t, altered(c, 5, func(s *api.Shard) { s.Hold = 0 }), freeze(5, epoch, move))
		}
	}
	// Neither its Hold nor its Closed tells then, nor that the cell's Top has become later.
	c = altered(c, 5, func(s *api.Shard) { s.Hold, s.Closed = 0, 30 })
	wantNoEffect(t, c, freeze(5, 2, 21))
	// The same Move in another phase is not enough.
	wantRefused(t, altered(c, 5, func(s *api.Shard) { s.Phase = serving }), freeze(5, 2, 21))
	wantRefused(t, altered(c, 5, func(s *api.Shard) { s.Phase = ready }), freeze(5, 2, 21))
}

func TestThaw(t *testing.T) {
	c := several()
	wantEffectOn(t, c, thaw(5, 21), func(s *api.Shard) { s.Phase, s.Closed = serving, 21 })
	for _, move := range []int{1, 19, 20, 22, 23, topNum} {
		wantNoEffect(t, c, thaw(5, move))
	}
	// A shard that is not frozen keeps its phase.
	for _, move := range []int{7, 8, topNum} {
		wantEffectOn(t, c, thaw(2, move), func(s *api.Shard) { s.Closed = move })
	}
	for _, move := range []int{1, 5, 6} {
		wantNoEffect(t, c, thaw(2, move))
	}
	for _, move := range []int{20, 21, 22, 23, topNum} {
		wantEffectOn(t, c, thaw(9, move), func(s *api.Shard) { s.Closed = move })
	}
	wantNoEffect(t, c, thaw(9, 19))
	for _, id := range []int{1, 3, 6, 10, topNum} {
		wantRefused(t, c, thaw(id, 21))
	}
	wantRefused(t, api.Cell{}, thaw(1, 1))
	// Frozen by a move that is finished.
	for _, closed := range []int{21, 22} {
		wantNoEffect(t, altered(c, 5, func(s *api.Shard) { s.Closed = closed }), thaw(5, 21))
	}
}

func TestRetire(t *testing.T) {
	c := several()
	wantEffect(t, c, retire(5, 21), withoutShard(c, 5))
	for _, move := range []int{1, 20, 22, topNum} {
		wantRefused(t, c, retire(5, move))
	}
	for _, id := range []int{1, 3, 6, 8, 10, topNum} {
		for _, move := range []int{1, 5, 21, 22, topNum} {
			wantNoEffect(t, c, retire(id, move))
			wantNoEffect(t, api.Cell{}, retire(id, move))
		}
	}
	for _, move := range []int{1, 5, 8, 21, 22} {
		wantRefused(t, c, retire(2, move))
		wantRefused(t, c, retire(4, move))
		wantRefused(t, c, retire(9, move))
	}
	for n := 1; n <= topShards; n++ {
		for _, s := range ofLength(n).Shards {
			c := altered(ofLength(n), s.ID, func(s *api.Shard) { s.Phase, s.Move = frozen, 3 })
			wantEffect(t, c, retire(s.ID, 3), withoutShard(c, s.ID))
		}
	}
}

// P11.5

// wantInstalled asks that s comes in, at its place.
func wantInstalled(t *testing.T, c api.Cell, s api.Shard) {
	t.Helper()
	want := cloned(c)
	in := clonedShard(s)
	in.Phase = ready
	want.Shards = append(want.Shards, in)
	slices.SortFunc(want.Shards, func(a, b api.Shard) int { return a.ID - b.ID })
	want.Top = laterOf(c.Top, s.Top)
	wantEffect(t, c, install(s, s.Move), want)
}

func TestInstall(t *testing.T) {
	s := incoming()
	for _, c := range []api.Cell{several(), {}, {Dropped: 29}, lone(), {Top: lastStamp}} {
		for _, id := range []int{3, 6, 7, 8, 10, topNum} {
			s.ID = id
			wantInstalled(t, c, s)
		}
	}
	for n := range topShards {
		for id := 5; id <= 10*n+5; id += 10 {
			s.ID = id
			wantInstalled(t, ofLength(n), s)
		}
	}
}

func TestInstallRaisesTop(t *testing.T) {
	s := incoming()
	for _, top := range []api.Stamp{{}, wall(11), at(12, 0, 2), at(12, 0, 3), at(12, 0, 4), at(12, 1, 0), wall(13), lastStamp} {
		want := api.Cell{Top: laterOf(top, at(12, 0, 3))}
		in := clonedShard(s)
		in.Phase = ready
		want.Shards = []api.Shard{in}
		wantEffect(t, api.Cell{Top: top}, install(s, 30), want)
	}
}

func TestInstallOfAShardThatIsThere(t *testing.T) {
	c := several()
	for _, id := range []int{2, 4, 5, 9} {
		s := incoming()
		s.ID = id
		for _, move := range []int{1, 5, 8, 19, 20, 21, 22, 23, 30, topNum} {
			s.Move = move
			if id == 9 && move == 22 {
				wantNoEffect(t, c, install(s, move))
				// Then nothing else of s tells, nor what was dropped.
				wantNoEffect(t, changed(c, func(c *api.Cell) { c.Dropped = 22 }), install(s, move))
				wantNoEffect(t, c, install(api.Shard{ID: 9}, move))
				wantNoEffect(t, c, install(shardOf(c, 9), move))
			} else {
				wantRefused(t, c, install(s, move))
			}
		}
	}
	wantRefused(t, altered(c, 9, func(s *api.Shard) { s.Phase = serving }), install(shardOf(c, 9), 22))
	wantRefused(t, altered(c, 9, func(s *api.Shard) { s.Phase = frozen }), install(shardOf(c, 9), 22))
}

func TestInstallOfAMoveThatWasDropped(t *testing.T) {
	for _, dropped := range []int{0, 1, 28, 29, 30, 31, topNum} {
		c := changed(several(), func(c *api.Cell) { c.Dropped = dropped })
		if dropped < 30 {
			wantInstalled(t, c, incoming())
		} else {
			wantRefused(t, c, install(incoming(), 30))
		}
	}
}

func TestInstallToFullCells(t *testing.T) {
	wantInstalled(t, ofLength(topShards-1), incoming())
	c := ofLength(topShards)
	wantRefused(t, c, install(incoming(), 30))
	c.Shards[3].Phase, c.Shards[3].Move = ready, 30
	s := incoming()
	s.ID = 40
	wantNoEffect(t, c, install(s, 30))
}

func TestInstallOfWrongShards(t *testing.T) {
	for _, c := range []api.Cell{{}, several()} {
		right := shardOf(several(), 2)
		right.ID, right.Phase, right.Move, right.Top = 6, frozen, 30, wall(100)
		wantInstalled(t, c, right)
		for _, bad := range badShards(right) {
			wantRefused(t, c, install(bad, 30))
		}
		for phase := range 5 {
			s := incoming()
			s.Phase = phase
			if phase != frozen {
				wantRefused(t, c, install(s, 30))
			}
		}
		for _, move := range []int{0, 1, 29, 31, topNum} {
			s := incoming()
			s.Move = move
			wantRefused(t, c, install(s, 30))
			if move > 0 {
				wantRefused(t, c, install(incoming(), move))
			}
		}
	}
}

func TestInstallOfVersionsLaterThanTop(t *testing.T) {
	for _, top := range []api.Stamp{{}, wall(11), at(11, 9, 9), wall(12), at(12, 0, 1), at(12, 1, 0), wall(13), lastStamp} {
		s := incoming()
		s.Top = top
		// Its latest version is at 12.
		for _, c := range []api.Cell{{}, several(), {Top: lastStamp}} {
			if top.Wall < 12 {
				wantRefused(t, c, install(s, 30))
			} else {
				wantInstalled(t, c, s)
			}
		}
		// Without versions there is none that is later.
		s.Entries = nil
		wantInstalled(t, several(), s)
	}
	s := incoming()
	s.Entries = []api.Entry{entry("a", put(13, "x")), entry("aa", put(1, "y"))}
	wantRefused(t, several(), install(s, 30))
}

func TestServe(t *testing.T) {
	c := several()
	for _, epoch := range []int{7, 8, topNum} {
		want := altered(c, 9, func(s *api.Shard) { s.Phase, s.Epoch, s.Closed = serving, epoch, 22 })
		want.Dropped = 22
		wantEffect(t, c, serve(9, 22, epoch), want)
	}
	for _, epoch := range []int{1, 5, 6} {
		wantRefused(t, c, serve(9, 22, epoch))
	}
	for _, move := range []int{1, 19, 21, 23, topNum} {
		wantRefused(t, c, serve(9, move, 7))
	}
	for _, id := range []int{1, 3, 6, 10, topNum} {
		wantRefused(t, c, serve(id, 22, 7))
	}
	for _, move := range []int{5, 6, 8, 21, 22} {
		wantRefused(t, c, serve(4, move, 7))
		wantRefused(t, c, serve(5, move, 7))
	}
	wantRefused(t, api.Cell{}, serve(1, 1, 1))
}

func TestServeAndWhatIsClosedOrDropped(t *testing.T) {
	for _, dropped := range []int{0, 7, 21, 22, 23, topNum} {
		for _, closed := range []int{0, 19, 22, 23, topNum} {
			c := altered(several(), 9, func(s *api.Shard) { s.Closed = closed })
			c.Dropped = dropped
			want := altered(c, 9, func(s *api.Shard) { s.Phase, s.Epoch, s.Closed = serving, 7, 22 })
			want.Dropped = max(dropped, 22)
			wantEffect(t, c, serve(9, 22, 7), want)
		}
	}
}

func TestServeOfAShardThatServes(t *testing.T) {
	c := several()
	wantNoEffect(t, c, serve(2, 6, 3))
	wantNoEffect(t, c, serve(4, 5, 4))
	for _, epoch := range []int{1, 2, 4, topNum} {
		wantRefused(t, c, serve(2, 6, epoch))
	}
	for _, move := range []int{1, 5, 7, topNum} {
		wantRefused(t, c, serve(2, move, 3))
	}
	// The same Epoch and Closed in another phase are not enough.
	wantRefused(t, c, serve(5, 20, 2))
	wantRefused(t, c, serve(9, 19, 6))
}

func TestDrop(t *testing.T) {
	c := several()
	want := withoutShard(c, 9)
	want.Dropped = 22
	wantEffect(t, c, drop(9, 22), want)
	for _, dropped := range []int{0, 7, 21, 22, 23, topNum} {
		c := changed(c, func(c *api.Cell) { c.Dropped = dropped })
		want := withoutShard(c, 9)
		want.Dropped = max(dropped, 22)
		wantEffect(t, c, drop(9, 22), want)
		for _, x := range []step{drop(9, 21), drop(9, 23), drop(5, 21), drop(5, 22), drop(2, 5), drop(2, 22), drop(1, 22), drop(10, 8), drop(topNum, 1), drop(9, topNum)} {
			if x.move <= dropped {
				wantNoEffect(t, c, x)
			} else {
				wantEffect(t, c, x, changed(c, func(c *api.Cell) { c.Dropped = x.move }))
			}
		}
	}
	wantEffect(t, api.Cell{}, drop(1, 1), api.Cell{Dropped: 1})
	wantNoEffect(t, api.Cell{Dropped: 1}, drop(1, 1))
}

// P11.6

// splitOf is several() with the shard 2 cut in two, where the keys are cut behind the first n ones.
func splitOf(c api.Cell, key string, n, other, next int) api.Cell {
	low, high := clonedShard(shardOf(c, 2)), clonedShard(shardOf(c, 2))
	low.Epoch, high.Epoch, high.ID = next, next, other
	low.Span, high.Span = api.Span{Lo: "b", Hi: key}, api.Span{Lo: key, Hi: "m"}
	low.Entries, high.Entries = low.Entries[:n], high.Entries[n:]
	c = withoutShard(c, 2)
	c.Shards = append(c.Shards, low, high)
	slices.SortFunc(c.Shards, func(a, b api.Shard) int { return a.ID - b.ID })
	return c
}

func TestSplit(t *testing.T) {
	c := several()
	for _, other := range []int{1, 3, 6, 8, 10, topNum} {
		for key, n := range map[string]int{"b!": 1, "c": 1, "d": 1, "d!": 2, "e": 2, "f": 2, "f!": 3, "l": 3, "lzz": 3} {
			wantEffect(t, c, split(2, 3, key, other, 7), splitOf(c, key, n, other, 7))
		}
	}
	for _, next := range []int{7, 8, topNum} {
		wantEffect(t, c, split(2, 3, "e", 8, next), splitOf(c, "e", 2, 8, next))
	}
}

func TestSplitAtTheEndsOfTheSpan(t *testing.T) {
	c := several()
	for _, key := range []string{"", "a", "azz", "b", "m", "m!", "z", "b ", "c ", "c\xff", strings.Repeat("c", topKey+1), "\x00", "l\u0085"} {
		wantRefused(t, c, split(2, 3, key, 8, 7))
	}
	open := lone()
	for _, key := range append([]string{""}, badKeys...) {
		wantRefused(t, open, split(1, 1, key, 2, 2))
	}
	for _, key := range []string{"!", "m", strings.Repeat("c", topKey), "\U0010ffff"} {
		want := api.Cell{Shards: []api.Shard{{ID: 1, Epoch: 2, Phase: serving, Span: api.Span{Hi: key}}, {ID: 2, Epoch: 2, Phase: serving, Span: api.Span{Lo: key}}}}
		wantEffect(t, open, split(1, 1, key, 2, 2), want)
	}
}

func TestSplitConditions(t *testing.T) {
	c := several()
	x := split(2, 3, "e", 8, 7)
	for _, id := range []int{1, 3, 6, 10, topNum} {
		wantRefused(t, c, split(id, 3, "e", 8, 7))
	}
	for _, epoch := range []int{1, 2, 4, topNum} {
		wantRefused(t, c, split(2, epoch, "e", 8, 7))
	}
	for _, phase := range []int{frozen, ready} {
		wantRefused(t, altered(c, 2, func(s *api.Shard) { s.Phase = phase }), x)
	}
	for _, by := range []int{1, 4, 7, topNum} {
		wantRefused(t, altered(c, 2, func(s *api.Shard) { s.Hold = by }), x)
	}
	for _, closed := range []int{7, 8, topNum} {
		wantRefused(t, altered(c, 2, func(s *api.Shard) { s.Closed = closed }), x)
	}
	for _, closed := range []int{0, 5, 6} {
		c := altered(c, 2, func(s *api.Shard) { s.Closed = closed })
		wantEffect(t, c, x, splitOf(c, "e", 2, 8, 7))
	}
	for _, epoch := range []int{1, 5, 6} {
		c := altered(c, 2, func(s *api.Shard) { s.Epoch = epoch })
		wantEffect(t, c, split(2, epoch, "e", 8, 7), splitOf(c, "e", 2, 8, 7))
	}
	for _, epoch := range []int{7, 8, topNum} {
		c := altered(c, 2, func(s *api.Shard) { s.Epoch = epoch })
		wantRefused(t, c, split(2, epoch, "e", 8, 7))
	}
	for _, other := range []int{2, 4, 5, 9} {
		wantRefused(t, c, split(2, 3, "e", other, 7))
	}
}

func TestSplitOfFullCells(t *testing.T) {
	for n := 1; n <= topShards; n++ {
		for _, s := range ofLength(n).Shards {
			x := split(s.ID, 1, s.Span.Lo+"k", s.ID+5, 2)
			c, ok := x.run(ofLength(n))
			if ok != (n < topShards) || ok && (len(c.Shards) != n+1 || !engine.Right(c)) {
				t.Errorf("%s of a cell of %d shards is %s, %v", x, n, brief(c), ok)
			}
			wantByDefinition(t, ofLength(n), x)
		}
	}
}

func TestSplitThatWasDone(t *testing.T) {
	c, ok := engine.Split(several(), 2, 3, "e", 7, 8)
	if !ok {
		t.Fatal("no Split")
	}
	for _, epoch := range []int{1, 2, 3, 4, 7, 8, topNum} {
		wantNoEffect(t, c, split(2, epoch, "e", 7, 8))
	}
	wantRefused(t, c, split(2, 3, "f", 7, 8))
	wantRefused(t, c, split(2, 3, "e", 6, 8))
	wantRefused(t, c, split(2, 3, "e", 4, 8))
	wantRefused(t, c, split(2, 3, "e", 7, 7))
	wantRefused(t, c, split(2, 8, "e", 7, 9))
	wantRefused(t, c, split(7, 3, "m", 1, 8))
	wantRefused(t, altered(c, 7, func(s *api.Shard) { s.Epoch = 9 }), split(2, 3, "e", 7, 8))
	wantRefused(t, altered(c, 2, func(s *api.Shard) { s.Epoch = 9 }), split(2, 3, "e", 7, 8))
	wantRefused(t, withoutShard(c, 2), split(2, 3, "e", 7, 8))
	// Whatever has become of both parts otherwise.
	held := altered(altered(c, 2, func(s *api.Shard) { s.Hold, s.Closed = 9, 30 }), 7, func(s *api.Shard) { s.Phase = frozen })
	wantNoEffect(t, held, split(2, 3, "e", 7, 8))
	full, ok := engine.Split(ofLength(7), 20, 1, "bm", 21, 2)
	if !ok || len(full.Shards) != topShards {
		t.Fatal("no Split of seven shards")
	}
	wantNoEffect(t, full, split(20, 1, "bm", 21, 2))
	// The upper part need not be what a Split makes, and a span may end where none does.
	wantNoEffect(t, several(), split(2, 1, "m", 2, 3))
	wantNoEffect(t, several(), split(9, 1, "", 9, 6))
	wantRefused(t, several(), split(2, 1, "", 2, 3))
}

// pair is a cell in which the shard 4 ends where the shard 2 begins, so that the second one by its ID is the lower one.
func pair() api.Cell {
	c := several()
	c.Shards = c.Shards[:2]
	return c
}

// mergedPair is what Merge of 2 and 4 makes of pair.
func mergedPair(next int) api.Cell {
	c := withoutShard(pair(), 4)
	s := &c.Shards[0]
	s.Epoch, s.Span, s.Mark, s.Seen, s.Closed, s.Move = next, api.Span{Lo: "b", Hi: "t"}, at(2, 0, 1), 4, 6, 0
	s.Entries = []api.Entry{entry("b", put(2, "x")), entry("d", put(3, "y"), del(5)), entry("f", put(4, "z"), put(6, "w")), entry("m", put(1, "o"), put(7, "p")), entry("q", put(5, "r"))}
	s.Done = []api.Done{row(1, 5, api.Answer{At: wall(6), Found: true}), row(2, 9, api.Answer{At: wall(7), Found: true}), row(3, 2, api.Answer{Err: api.ErrClash, At: wall(4), Found: true, Value: "z"})}
	return c
}

func TestMerge(t *testing.T) {
	for _, next := range []int{7, 8, topNum} {
		wantEffect(t, pair(), merge(2, 4, 3, next), mergedPair(next))
	}
	wantRefused(t, pair(), merge(4, 2, 4, 7))
	// The lower part may have the greater ID, and then keeps it.
	c := changed(pair(), func(c *api.Cell) {
		c.Shards[0].ID, c.Shards[1].ID = 4, 2
		c.Shards[0], c.Shards[1] = c.Shards[1], c.Shards[0]
	})
	want := mergedPair(7)
	want.Shards[0].ID = 4
	wantEffect(t, c, merge(4, 2, 3, 7), want)
	wantRefused(t, c, merge(2, 4, 4, 7))
}

func TestMergeConditions(t *testing.T) {
	c := pair()
	x := merge(2, 4, 3, 7)
	for _, id := range []int{1, 3, 5, topNum} {
		wantRefused(t, c, merge(id, 4, 3, 7))
		wantRefused(t, c, merge(2, id, 3, 7))
	}
	for _, epoch := range []int{1, 2, 4, 7, topNum} {
		wantRefused(t, c, merge(2, 4, epoch, 7))
	}
	for _, id := range []int{2, 4} {
		for _, phase := range []int{frozen, ready} {
			wantRefused(t, altered(c, id, func(s *api.Shard) { s.Phase = phase }), x)
		}
		for _, by := range []int{1, 4, 7, topNum} {
			wantRefused(t, altered(c, id, func(s *api.Shard) { s.Hold = by }), x)
		}
	}
	for _, next := range []int{1, 3, 4, 5, 6} {
		wantRefused(t, c, merge(2, 4, 3, next))
	}
	wantRefused(t, several(), merge(2, 2, 3, 7))
	wantRefused(t, several(), merge(2, 5, 3, 7))
	wantRefused(t, several(), merge(4, 5, 4, 7))
	wantRefused(t, api.Cell{}, merge(1, 2, 1, 2))
}

// next is held against the Epochs of both and the Closed of the first one, each by itself.
func TestMergeAtEachNumber(t *testing.T) {
	numbers := []int{1, 6, 7, 8, 9, topNum}
	for _, n := range numbers {
		wantNext := func(c api.Cell, epoch int, least int) {
			t.Helper()
			for _, next := range numbers {
				wantByDefinition(t, c, merge(2, 4, epoch, next))
				if _, ok := engine.Merge(c, 2, 4, epoch, next); ok != (next >= least) && epoch != next {
					t.Errorf("Merge with next %d, where %d is the least, is %v", next, least, ok)
				}
			}
		}
		bare := func(s *api.Shard) { s.Epoch, s.Closed = 1, 0 }
		c := altered(altered(pair(), 2, bare), 4, bare)
		wantNext(altered(c, 2, func(s *api.Shard) { s.Epoch = n }), n, n+1)
		wantNext(altered(c, 4, func(s *api.Shard) { s.Epoch = n }), 1, n+1)
		wantNext(altered(c, 2, func(s *api.Shard) { s.Closed = n }), 1, n+1)
		wantNext(altered(c, 4, func(s *api.Shard) { s.Closed = n }), 1, 2)
	}
}

func TestMergeOfSpans(t *testing.T) {
	bare := func(lo, hi, otherLo, otherHi string) api.Cell {
		return api.Cell{Shards: []api.Shard{
			{ID: 1, Epoch: 1, Phase: serving, Span: api.Span{Lo: lo, Hi: hi}},
			{ID: 2, Epoch: 1, Phase: serving, Span: api.Span{Lo: otherLo, Hi: otherHi}},
		}}
	}
	for _, l := range [][]string{{"", "m", "m", ""}, {"b", "m", "m", ""}, {"", "m", "m", "t"}, {"b", "m", "m", "m!"}} {
		want := bare(l[0], l[3], "", "")
		want.Shards = want.Shards[:1]
		want.Shards[0].Epoch = 2
		wantEffect(t, bare(l[0], l[1], l[2], l[3]), merge(1, 2, 1, 2), want)
	}
	for _, l := range [][]string{{"", "", "", ""}, {"b", "m", "n", ""}, {"b", "m", "l", ""}, {"b", "", "", "t"}, {"m", "", "b", "m"}, {"b", "m", "b", "m"}, {"b", "m", "", "b"}, {"b", "m", "m!", "t"}} {
		wantRefused(t, bare(l[0], l[1], l[2], l[3]), merge(1, 2, 1, 2))
	}
}

func TestMergeOfTooManyEntries(t *testing.T) {
	for n := range topEntries + 1 {
		for _, extra := range []int{0, 1} {
			c := altered(pair(), 2, func(s *api.Shard) { s.Entries = fullIndex()[:n] })
			c = altered(c, 4, func(s *api.Shard) {
				s.Entries = nil
				for i := range topEntries - n + extra {
					s.Entries = append(s.Entries, entry(fmt.Sprintf("n%03d", i), put(1, "v")))
				}
			})
			if !validCell(c) {
				continue
			}
			got, ok := engine.Merge(c, 2, 4, 3, 7)
			if ok != (extra == 0) || ok && len(got.Shards[0].Entries) != topEntries {
				t.Errorf("Merge of %d and %d entries: %v", n, topEntries-n+extra, ok)
			}
			wantByDefinition(t, c, merge(2, 4, 3, 7))
		}
	}
}

// Entries that are too many are too many even if the later Mark would leave fewer.
func TestMergeOfTooManyEntriesThatWouldBePruned(t *testing.T) {
	c := altered(pair(), 2, func(s *api.Shard) { s.Entries = fullIndex() })
	c = altered(c, 4, func(s *api.Shard) { s.Entries = []api.Entry{entry("n", del(1))} })
	wantRefused(t, c, merge(2, 4, 3, 7))
	c = altered(c, 2, func(s *api.Shard) { s.Entries = s.Entries[:topEntries-1] })
	got, ok := engine.Merge(c, 2, 4, 3, 7)
	if !ok || len(got.Shards[0].Entries) != topEntries-1 {
		t.Errorf("Merge of 63 entries and one that is pruned: %s, %v", brief(got), ok)
	}
	wantByDefinition(t, c, merge(2, 4, 3, 7))
}

func TestMergeOfTables(t *testing.T) {
	for n := range topClients + 1 {
		for m := range topClients + 1 {
			c := altered(pair(), 2, func(s *api.Shard) { s.Done = fullTable()[:n] })
			c = altered(c, 4, func(s *api.Shard) {
				s.Done = nil
				for i := range m {
					s.Done = append(s.Done, row(10*(topClients-i)+5, 1, api.Answer{At: wall(1)}))
				}
				slices.Reverse(s.Done)
			})
			got, ok := engine.Merge(c, 2, 4, 3, 7)
			if ok != (n+m <= topClients) || ok && len(got.Shards[0].Done) != n+m {
				t.Errorf("Merge of tables of %d and %d clients: %v", n, m, ok)
			}
			wantByDefinition(t, c, merge(2, 4, 3, 7))
		}
	}
	// Clients in common need one row each; an equal one is that of the shard that stays.
	c := altered(pair(), 2, func(s *api.Shard) { s.Done = fullTable() })
	c = altered(c, 4, func(s *api.Shard) {
		s.Done = fullTable()
		for i := range s.Done {
			s.Done[i].Req, s.Done[i].Answer.Value = 4+i%3, "other"
		}
	})
	got, ok := engine.Merge(c, 2, 4, 3, 7)
	for i, d := range got.Shards[0].Done {
		if !ok || (d.Answer.Value == "other") != (i%3 == 2) {
			t.Errorf("Merge of equal tables: %s, %v", brief(got.Shards[0].Done), ok)
		}
	}
	wantByDefinition(t, c, merge(2, 4, 3, 7))
}

func TestMergeOfEachField(t *testing.T) {
	for _, n := range []int{0, 1, 5, topNum} {
		for _, m := range []int{0, 1, 5, topNum} {
			c := altered(pair(), 2, func(s *api.Shard) { s.Seen = n })
			c = altered(c, 4, func(s *api.Shard) { s.Seen = m })
			want := mergedPair(7)
			want.Shards[0].Seen = max(n, m)
			wantEffect(t, c, merge(2, 4, 3, 7), want)
			if n < 7 {
				c := altered(pair(), 2, func(s *api.Shard) { s.Closed = n })
				c = altered(c, 4, func(s *api.Shard) { s.Closed = m })
				want := mergedPair(7)
				want.Shards[0].Closed = max(n, m)
				wantEffect(t, c, merge(2, 4, 3, 7), want)
			}
			c = altered(pair(), 2, func(s *api.Shard) { s.Move = n })
			c = altered(c, 4, func(s *api.Shard) { s.Move = m })
			wantEffect(t, c, merge(2, 4, 3, 7), mergedPair(7))
		}
	}
	// The Top of the shard that stays is kept, whichever is later.
	for _, s := range []api.Stamp{{}, wall(3), lastStamp} {
		c := altered(pair(), 2, func(x *api.Shard) { x.Top = s })
		want := mergedPair(7)
		want.Shards[0].Top = s
		wantEffect(t, c, merge(2, 4, 3, 7), want)
	}
}

func TestMergePrunesByTheLaterMark(t *testing.T) {
	for _, a := range []api.Stamp{{}, wall(2), wall(3), wall(4), wall(5), wall(6), lastStamp} {
		for _, b := range []api.Stamp{{}, wall(1), wall(5), wall(7), lastStamp} {
			c := altered(pair(), 2, func(s *api.Shard) { s.Mark = a })
			c = altered(c, 4, func(s *api.Shard) { s.Mark = b })
			got, ok := engine.Merge(c, 2, 4, 3, 7)
			if !ok || got.Shards[0].Mark != laterOf(a, b) || !engine.Right(got) {
				t.Errorf("Merge of the marks %v and %v: %s, %v", a, b, brief(got), ok)
			}
			wantByDefinition(t, c, merge(2, 4, 3, 7))
		}
	}
	c := altered(pair(), 4, func(s *api.Shard) { s.Mark = wall(5) })
	want := mergedPair(7)
	want.Shards[0].Mark = wall(5)
	want.Shards[0].Entries = []api.Entry{entry("b", put(2, "x")), entry("f", put(4, "z"), put(6, "w")), entry("m", put(1, "o"), put(7, "p")), entry("q", put(5, "r"))}
	wantEffect(t, c, merge(2, 4, 3, 7), want)
}

func TestMergeThatWasDone(t *testing.T) {
	c := mergedPair(7)
	for _, epoch := range []int{1, 3, 6, 7, 8, topNum} {
		wantNoEffect(t, c, merge(2, 4, epoch, 7))
		wantRefused(t, c, merge(2, 4, epoch, 6))
		wantRefused(t, c, merge(2, 4, epoch, 8))
		wantRefused(t, c, merge(4, 2, epoch, 7))
	}
	wantNoEffect(t, altered(c, 2, func(s *api.Shard) { s.Phase, s.Hold, s.Closed = frozen, 9, 30 }), merge(2, 4, 3, 7))
	// Where the other one is still there, it was not.
	wantRefused(t, altered(pair(), 2, func(s *api.Shard) { s.Epoch = 7 }), merge(2, 4, 3, 7))
	wantRefused(t, altered(pair(), 2, func(s *api.Shard) { s.Epoch = 7 }), merge(2, 4, 7, 7))
}

// P11.7

func TestRaise(t *testing.T) {
	for _, c := range []api.Cell{several(), ofLength(3), {Top: at(10, 2, 1)}, {}} {
		for _, s := range []api.Stamp{{}, wall(9), at(10, 1, 9), at(10, 2, 0), at(10, 2, 1), at(10, 2, 2), at(10, 3, 0), wall(11), wall(50), at(50, 0, 1), lastStamp} {
			want := cloned(c)
			want.Top = laterOf(c.Top, s)
			wantStep(t, c, raise(s), want, want.Top != c.Top)
			wantByDefinition(t, c, raise(s))
		}
	}
}

func TestPrune(t *testing.T) {
	c := several()
	for n := range 15 {
		for _, mark := range []api.Stamp{wall(n), at(n, 0, 1), at(n, topTick, topNode), at(n, 1, 1), at(n, 2, 2)} {
			want := cloned(c)
			for i := range want.Shards {
				s := &want.Shards[i]
				s.Mark, s.Entries = laterOf(s.Mark, mark), prunedEntries(s.Entries, mark)
			}
			wantStep(t, c, prune(mark), want, !same(c, want))
			wantByDefinition(t, c, prune(mark))
		}
	}
	want := several()
	for i := range want.Shards {
		want.Shards[i].Mark = wall(8)
	}
	want.Shards[0].Entries = []api.Entry{entry("b", put(2, "x")), entry("f", put(6, "w"))}
	want.Shards[1].Entries = []api.Entry{entry("m", put(7, "p")), entry("q", put(5, "r"))}
	want.Shards[2].Entries = []api.Entry{entry("t", put(9, "u"))}
	wantEffect(t, c, prune(wall(8)), want)
	wantByDefinition(t, api.Cell{}, prune(wall(8)))
	wantByDefinition(t, ofLength(topShards), prune(lastStamp))
}

// Entries that the shard's own Mark would not keep are kept as long as an earlier mark asks for them.
func TestPruneWithAnEarlierMark(t *testing.T) {
	c := altered(several(), 2, func(s *api.Shard) { s.Mark = lastStamp })
	wantStep(t, c, prune(wall(1)), changed(c, func(c *api.Cell) { c.Shards[2].Mark = at(1, 0, 0) }), false)
	want := cloned(c)
	want.Shards[0].Entries = []api.Entry{entry("b", put(2, "x")), entry("f", put(4, "z"), put(6, "w"))}
	want.Shards[1].Mark, want.Shards[2].Mark, want.Shards[3].Mark = wall(5), wall(5), wall(5)
	wantEffect(t, c, prune(wall(5)), want)
}

// All steps on all small cells

// eachShard calls f with the shard s in each phase and with numbers up to 3 in its fields.
func eachShard(s api.Shard, f func(s api.Shard)) {
	for phase := serving; phase <= ready; phase++ {
		for n := range 2 * 3 * 3 * 3 * 3 {
			s.Phase, s.Epoch, s.Hold, s.Seen, s.Move, s.Closed = phase, 1+n%2, n/2%3, n/6%3, n/18%3, n/54
			f(s)
		}
	}
}

func TestSingleShardsByDefinition(t *testing.T) {
	first := api.Shard{ID: 1, Span: api.Span{Hi: "m"}, Mark: wall(1), Top: wall(2), Entries: []api.Entry{entry("a", put(1, "x"), put(2, "y"))}, Done: []api.Done{row(1, 1, api.Answer{At: wall(2)})}}
	second := api.Shard{ID: 2, Epoch: 2, Phase: serving, Span: api.Span{Lo: "m"}, Entries: []api.Entry{entry("z", put(1, "x"))}}
	incoming := api.Shard{ID: 1, Epoch: 1, Phase: frozen, Move: 2, Top: wall(2)}
	var steps []step
	for a := 1; a <= 3; a++ {
		for b := 1; b <= 3; b++ {
			steps = append(steps, hold(1, a, b), freeze(1, a, b), serve(1, a, b), split(1, a, "k", 3, b), split(1, a, "m", 2, b), merge(1, 2, a, b), merge(1, 3, a, b))
		}
		steps = append(steps, free(1, a, wall(2)), free(1, a, wall(5)), thaw(1, a), retire(1, a), drop(1, a), install(incoming, a))
	}
	eachShard(first, func(s api.Shard) {
		for dropped := range 3 {
			c := api.Cell{Top: wall(3), Dropped: dropped, Shards: []api.Shard{s, second}}
			for _, x := range steps {
				if dropped == 0 || x.name == "Drop" || x.name == "Install" || x.name == "Serve" {
					want, ok := meant(c, x)
					got, gotOK := x.run(c)
					if !same(got, want) || ok != gotOK {
						t.Fatalf("%s of\n%s is\n%s, %v, want\n%s, %v", x, brief(c), brief(got), gotOK, brief(want), ok)
					}
				}
			}
		}
	})
}

func TestMixedStepsByDefinition(t *testing.T) {
	for n := range 400 {
		d := dice(n)
		c := d.cell()
		for range 60 {
			x := d.step(c)
			wantByDefinition(t, c, x)
			c, _ = x.run(c)
			if !engine.Right(c) {
				t.Fatalf("%s has made %s, which is not valid", x, brief(c))
			}
		}
	}
}

// Dice

// dice gives numbers below n in an order that is the same each time.
type dice uint64

func (d *dice) below(n int) int {
	*d = *d*6364136223846793005 + 1442695040888963407
	return int(uint64(*d) >> 33 % uint64(n))
}

func (d *dice) one(l ...int) int { return l[d.below(len(l))] }

// number is mostly a small one.
func (d *dice) number() int {
	if d.below(40) == 0 {
		return d.one(0, -1, topNum, topNum+1, topNum-1, math.MaxInt)
	}
	return 1 + d.below(5)
}

func (d *dice) key() string {
	return []string{"a", "b", "c", "d", "e", "f", "g", "h", "b!", "\u00e9"}[d.below(10)]
}

func (d *dice) stamp() api.Stamp {
	if d.below(60) == 0 {
		return badStamps[d.below(len(badStamps))]
	}
	return at(d.below(9), d.below(2), d.below(3))
}

func (d *dice) validStamp() api.Stamp { return at(d.below(6), d.below(2), d.below(3)) }

// chain is a valid chain of one version at least.
func (d *dice) chain() []api.Version {
	var c []api.Version
	for i := range 5 {
		if d.below(3) == 0 || i == 4 && c == nil {
			c = append(c, api.Version{At: at(i, d.below(2), d.below(3)), Gone: d.below(3) == 0})
			if v := &c[len(c)-1]; !v.Gone {
				v.Value = strings.Repeat("v", d.below(topValue+1))
			}
		}
	}
	return c
}

// index is a valid index of keys in s.
func (d *dice) index(s api.Span) []api.Entry {
	var ix []api.Entry
	for _, k := range []string{"!", "a", "b", "b!", "c", "cc", "d", "e", "f", "g", "h", "z", "\u00e9"} {
		if liesIn(k, s.Lo, s.Hi) && d.below(2) == 0 {
			ix = append(ix, api.Entry{Key: k, Chain: d.chain()})
		}
	}
	return ix
}

func (d *dice) table() []api.Done {
	var t []api.Done
	for client := 1; client <= 10; client++ {
		if d.below(3) == 0 && len(t) < topClients {
			t = append(t, row(client, 1+d.below(5), api.Answer{At: d.validStamp(), Found: d.below(2) == 0, Err: api.Errno(d.below(2) * 15)}))
		}
	}
	return t
}

// shard is a valid one.
func (d *dice) shard(id int, s api.Span) api.Shard {
	return api.Shard{
		ID: id, Epoch: 1 + d.below(4), Span: s, Phase: d.one(serving, serving, serving, frozen, ready), Entries: d.index(s), Mark: d.validStamp(), Top: d.validStamp(), Done: d.table(),
		Hold: d.one(0, 0, 0, 1, 2, 3), Seen: d.below(4), Move: d.below(5), Closed: d.below(4),
	}
}

// cell is a valid one, most of whose shards adjoin.
func (d *dice) cell() api.Cell {
	bounds := []string{"", "b", "d", "f", "h", ""}
	c := api.Cell{Top: at(5, 1, d.below(3)), Dropped: d.below(5)}
	ids := []int{1, 2, 3, 4, 5}
	if d.below(3) == 0 {
		ids = []int{5, 3, 2, 4, 1}
	}
	for i, id := range ids {
		if d.below(5) > 0 {
			c.Shards = append(c.Shards, d.shard(id, api.Span{Lo: bounds[i], Hi: bounds[i+1]}))
		}
	}
	slices.SortFunc(c.Shards, func(a, b api.Shard) int { return a.ID - b.ID })
	return c
}

// shardID is mostly that of a shard of c.
func (d *dice) shardID(c api.Cell) int {
	if len(c.Shards) == 0 || d.below(5) == 0 {
		return d.number()
	}
	return c.Shards[d.below(len(c.Shards))].ID
}

// settled is a shard of c that serves and is not held, if dice finds one soon.
func (d *dice) settled(c api.Cell) (s api.Shard) {
	for range 5 {
		if len(c.Shards) > 0 && (s.Phase != serving || s.Hold != 0) {
			s = c.Shards[d.below(len(c.Shards))]
		}
	}
	return s
}

// near is mostly n, or a number beside it.
func (d *dice) near(n int) int {
	if d.below(12) == 0 {
		return d.number()
	}
	return n + d.one(0, 0, 0, 0, 0, 0, 1, -1)
}

// step is one that often has an effect on c.
func (d *dice) step(c api.Cell) step {
	id := d.shardID(c)
	s, _ := engine.Find(c, id)
	switch d.below(16) {
	case 0:
		return hold(id, d.near(s.Epoch), d.near(s.Seen+1))
	case 1:
		return free(id, d.near(s.Seen+1), d.stamp())
	case 2:
		return freeze(id, d.near(s.Epoch), d.near(s.Closed+1))
	case 3:
		return thaw(id, d.near(s.Move))
	case 5:
		return retire(id, d.near(s.Move))
	case 6, 7:
		in := d.shard(d.one(d.number(), 6, 7, 8, 9, 10), api.Span{Lo: "b", Hi: "h"})
		in.Phase, in.Move = d.one(frozen, frozen, frozen, serving, ready), d.near(c.Dropped+1)
		if d.below(4) > 0 {
			in.Top = wall(5 + d.below(5))
		}
		if d.below(8) == 0 {
			in = badShards(api.Shard{ID: 3, Epoch: 1, Span: api.Span{Lo: "b", Hi: "m"}, Phase: frozen, Move: 3, Top: wall(5)})[d.below(100)]
		}
		return install(in, d.near(in.Move))
	case 8, 9:
		return serve(id, d.near(s.Move), d.near(s.Epoch+1))
	case 10:
		return drop(id, d.near(s.Move))
	case 11, 12:
		s := d.settled(c)
		return split(s.ID, d.near(s.Epoch), d.key(), d.one(d.shardID(c), 6, 7, 8, 9, 10), d.near(max(s.Epoch, s.Closed)+1))
	case 4, 13:
		s := d.settled(c)
		o := d.settled(c)
		if i := slices.IndexFunc(c.Shards, func(o api.Shard) bool { return s.Span.Hi != "" && o.Span.Lo == s.Span.Hi }); i >= 0 {
			o = c.Shards[i]
		}
		return merge(s.ID, d.near(o.ID), d.near(s.Epoch), d.near(max(s.Epoch, s.Closed, o.Epoch)+1))
	case 14:
		return raise(d.stamp())
	}
	return prune(at(d.below(4), 0, 0))
}
