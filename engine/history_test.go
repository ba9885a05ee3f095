package engine_test

import (
	"slices"
	"testing"

	"stratigraph/api"
	"stratigraph/engine"
)

// P11.8

// wantOn asks of what a step or a request has left of before: that it is valid, that neither Top nor Dropped has fallen, and that each key that is still there has its values, from the marks on and up to the Top before. of tells the shard that had a key of a shard.
func wantOn(t *testing.T, call string, before, after api.Cell, of func(id int, k string) int) {
	t.Helper()
	if !engine.Right(after) || !validCell(after) {
		t.Fatalf("%s of\n%s leaves\n%s, which is not valid", call, brief(before), brief(after))
	}
	if order(after.Top, before.Top) < 0 || after.Dropped < before.Dropped {
		t.Fatalf("%s of\n%s leaves\n%s, which has fallen", call, brief(before), brief(after))
	}
	for _, s := range after.Shards {
		for _, k := range keysOf(before, after) {
			old, there := engine.Find(before, of(s.ID, k))
			if !there || !liesIn(k, s.Span.Lo, s.Span.Hi) || !liesIn(k, old.Span.Lo, old.Span.Hi) {
				continue
			}
			if order(s.Mark, old.Mark) < 0 {
				t.Fatalf("%s of\n%s leaves\n%s, in which the mark of %q is earlier", call, brief(before), brief(after), k)
			}
			for _, at := range stampsOf(old.Entries, s.Entries) {
				if order(at, s.Mark) < 0 || order(at, before.Top) > 0 {
					continue
				}
				was, had := valueIn(old.Entries, k, at)
				value, has := valueIn(s.Entries, k, at)
				if was != value || had != has {
					t.Fatalf("%s of\n%s leaves\n%s, in which %q has another value at %v", call, brief(before), brief(after), k, at)
				}
			}
		}
	}
}

func keysOf(cells ...api.Cell) []string {
	var keys []string
	for _, c := range cells {
		for _, s := range c.Shards {
			for _, e := range s.Entries {
				keys = append(keys, e.Key)
			}
		}
	}
	slices.Sort(keys)
	return slices.Compact(keys)
}

// stampsOf are the stamps of all versions, and some between and behind them.
func stampsOf(indexes ...[]api.Entry) []api.Stamp {
	l := []api.Stamp{{}, wall(3), lastStamp}
	for _, ix := range indexes {
		for _, e := range ix {
			for _, v := range e.Chain {
				l = append(l, v.At)
			}
		}
	}
	slices.SortFunc(l, order)
	return slices.Compact(l)
}

func itself(id int, k string) int { return id }

func TestMixedStepsKeepWhatIsThere(t *testing.T) {
	effects := map[string]int{}
	for n := range 500 {
		d := dice(1000 + n)
		c := d.cell()
		for range 40 {
			if d.below(3) == 0 {
				x := d.request(c)
				after, _ := x.run(c)
				wantOn(t, x.String(), c, after, itself)
				c = after
				continue
			}
			x := d.step(c)
			after, ok := x.run(c)
			of := itself
			if ok && !same(c, after) {
				effects[x.name]++
				of = func(id int, k string) int { return ancestor(c, x, id, k) }
			}
			wantOn(t, x.String(), c, after, of)
			c = after
		}
	}
	for _, x := range effective() {
		if effects[x.name] < 20 {
			t.Errorf("%s has had an effect %d times", x.name, effects[x.name])
		}
	}
}

// ancestor is the shard of before that had k of the shard id, where the step x has had an effect.
func ancestor(before api.Cell, x step, id int, k string) int {
	switch {
	case x.name == "Split" && id == x.other:
		return x.id
	case x.name == "Merge" && id == x.id && k >= shardOf(before, x.other).Span.Lo:
		return x.other
	}
	return id
}

// A world: several cells, between which shards are moved by the rules of a director

// world has cells, whose shards together serve each key once, and all that was ever written.
type world struct {
	t     *testing.T
	d     dice
	cells [3]api.Cell
	next  int
	// history has all versions of each key, as if there were no pruning.
	history map[string][]api.Version
	// asked and told are each client's last write, and its answer.
	asked map[int]asked
	told  map[int]api.Answer
	// sent are the steps that have been made, which may be made again at any time.
	sent []sending
	// busy is what goes on at present, one call a step of it; it is done when it answers nothing.
	busy   []func()
	counts map[string]int
}

type sending struct {
	cell int
	x    step
}

func newWorld(t *testing.T, seed int) *world {
	w := &world{t: t, d: dice(seed), next: 2, history: map[string][]api.Version{}, asked: map[int]asked{}, told: map[int]api.Answer{}, counts: map[string]int{}}
	w.cells[0] = lone()
	return w
}

func (w *world) number() int {
	w.next++
	return w.next - 1
}

// make makes a step, which is answered by true.
func (w *world) make(cell int, x step) {
	w.t.Helper()
	if !w.try(cell, x) {
		w.t.Fatalf("%s of %s is false", x, brief(w.cells[cell]))
	}
}

func (w *world) try(cell int, x step) bool {
	w.t.Helper()
	w.sent = append(w.sent, sending{cell, x})
	c, ok := x.run(w.cells[cell])
	w.become(cell, x.String(), c)
	w.counts[x.name]++
	return ok || x.name == "Raise" || x.name == "Prune"
}

func (w *world) become(cell int, call string, after api.Cell) {
	w.t.Helper()
	before := w.cells[cell]
	if !engine.Right(after) || order(after.Top, before.Top) < 0 || after.Dropped < before.Dropped {
		w.t.Fatalf("%s of\n%s leaves\n%s", call, brief(before), brief(after))
	}
	w.cells[cell] = after
}

// want asks that each shard has what the history tells, from its mark on, as long as it was served, and that each key is served by one shard, or by one that is on its way.
func (w *world) want(call string) {
	w.t.Helper()
	serves := map[string]int{}
	for _, c := range w.cells {
		for _, s := range c.Shards {
			last := s.Top
			if s.Phase == serving {
				last = c.Top
			}
			for _, k := range worldKeys {
				if !liesIn(k, s.Span.Lo, s.Span.Hi) {
					continue
				}
				if s.Phase == serving {
					serves[k]++
				}
				w.wantValues(call, s, k, last)
			}
		}
	}
	for _, k := range worldKeys {
		if serves[k] > 1 || serves[k] == 0 && len(w.busy) == 0 {
			w.t.Fatalf("after %s, %d shards serve %q", call, serves[k], k)
		}
	}
}

func (w *world) wantValues(call string, s api.Shard, k string, last api.Stamp) {
	w.t.Helper()
	whole := []api.Entry{{Key: k, Chain: w.history[k]}}
	for _, at := range append(stampsOf(whole), s.Mark, last) {
		if order(at, s.Mark) < 0 || order(at, last) > 0 {
			continue
		}
		value, found := valueIn(s.Entries, k, at)
		want, wantFound := valueIn(whole, k, at)
		if value != want || found != wantFound {
			w.t.Fatalf("after %s, %q has %q, %v at %v, want %q, %v, in\n%s", call, k, value, found, at, want, wantFound, brief(s))
		}
	}
}

var worldKeys = []string{"a", "b", "c", "d", "e", "f", "g", "h", "i", "j"}

// server is the cell and the shard that serve k, if one does.
func (w *world) server(k string) (int, api.Shard, bool) {
	for i, c := range w.cells {
		for _, s := range c.Shards {
			if s.Phase == serving && liesIn(k, s.Span.Lo, s.Span.Hi) {
				return i, s, true
			}
		}
	}
	return 0, api.Shard{}, false
}

// write makes a write of some client, which has not been asked before.
func (w *world) write() {
	k := worldKeys[w.d.below(len(worldKeys))]
	cell, s, there := w.server(k)
	if !there {
		return
	}
	client := 1 + w.d.below(topClients)
	x := asked{s.ID, s.Epoch, api.Request{Client: client, Req: w.asked[client].r.Req + 1 + w.d.below(3), Kind: 1 + w.d.below(3), Key: k, Value: string(rune('0' + w.d.below(10)))}, w.cells[cell].Top, 5}
	x.now.Tick += w.d.below(2)
	x.now.Node = cell + 1
	if order(x.now, w.cells[cell].Top) <= 0 {
		x.now.Wall++
	}
	if value, found := valueIn(s.Entries, k, w.cells[cell].Top); w.d.below(3) > 0 {
		x.r.Had, x.r.Old = found, value
	}
	before := w.cells[cell]
	after, a := x.run(before)
	w.become(cell, x.String(), after)
	w.record(x, a, s)
}

// record tells the history what the answer says.
func (w *world) record(x asked, a api.Answer, s api.Shard) {
	k := x.r.Key
	_, found := valueIn([]api.Entry{{Key: k, Chain: w.history[k]}}, k, lastStamp)
	switch {
	case a.Err == api.ErrBusy && s.Hold != 0:
		return
	case a.Err == api.ErrFull && len(s.Entries[slices.IndexFunc(s.Entries, func(e api.Entry) bool { return e.Key == k })].Chain) == topVersions:
		w.counts["full"]++
		return
	case a.Err != api.OK && a.Err != api.ErrClash, a.At != x.now, a.Found != found:
		w.t.Fatalf("%s answers %s, where %v was found, in %s", x, brief(a), found, brief(s))
	case a.Err == api.ErrClash:
		w.counts["clash"]++
	case x.r.Kind == api.Delete:
		if found {
			w.history[k] = append(w.history[k], api.Version{At: a.At, Gone: true})
		}
	default:
		w.history[k] = append(w.history[k], api.Version{At: a.At, Value: x.r.Value})
	}
	if l := w.history[k]; len(l) > 1 && order(l[len(l)-2].At, l[len(l)-1].At) >= 0 {
		w.t.Fatalf("%s answers %s, which is not later than the version before", x, brief(a))
	}
	w.counts["write"]++
	w.asked[x.r.Client], w.told[x.r.Client] = x, a
}

// again makes a client's last write once more, wherever its key is served now.
func (w *world) again() {
	client := 1 + w.d.below(topClients)
	x, there := w.asked[client]
	if !there {
		return
	}
	cell, s, there := w.server(x.r.Key)
	if !there {
		return
	}
	x.id, x.epoch = s.ID, s.Epoch
	x.now = laterOf(w.cells[cell].Top, x.now)
	x.now.Wall++
	before := w.cells[cell]
	after, a := x.run(before)
	want := w.told[client]
	if s.Hold != 0 {
		want = told(api.ErrBusy)
	}
	if !same(before, after) || !sameAnswer(a, want) {
		w.t.Fatalf("%s once more answers %s, want %s, and leaves\n%s of\n%s", x, brief(a), brief(want), brief(after), brief(before))
	}
	w.counts["again"]++
	// Where the shard was before, nobody answers any more.
	x.epoch--
	if after, a := x.run(before); !same(before, after) || a.Err != api.ErrStale && a.Err != api.ErrArg {
		w.t.Fatalf("%s at another epoch answers %s", x, brief(a))
	}
}

// read asks for what a key had, or for a page of the shard.
func (w *world) read() {
	k := worldKeys[w.d.below(len(worldKeys))]
	cell, s, there := w.server(k)
	if !there {
		return
	}
	whole := []api.Entry{{Key: k, Chain: w.history[k]}}
	x := asked{s.ID, s.Epoch, api.Request{Client: 1, Req: 1, Kind: api.Get, Key: k, Limit: 8, At: w.cells[cell].Top}, api.Stamp{}, 1000}
	_, a := x.run(w.cells[cell])
	if v, there := versionAt(whole, k, lastStamp); a.Found != (there && !v.Gone) || a.Value != v.Value || a.Found && a.At != v.At {
		w.t.Fatalf("%s answers %s, want %v", x, brief(a), v)
	}
	x.r.Kind = api.GetAt + w.d.below(2)
	x.r.At.Wall += w.d.below(3) - 1
	if x.r.At.Wall < 0 {
		return
	}
	after, a := x.run(w.cells[cell])
	w.become(cell, x.String(), after)
	if order(x.r.At, s.Mark) < 0 {
		if a.Err != api.ErrExpired {
			w.t.Fatalf("%s answers %s before the mark", x, brief(a))
		}
		return
	}
	value, found := valueIn(whole, k, x.r.At)
	if x.r.Kind == api.Page && found && (len(a.Items) == 0 || a.Items[0] != api.Item{Key: k, Value: value}) || x.r.Kind == api.GetAt && (a.Value != value || a.Found != found) {
		w.t.Fatalf("%s answers %s, want %q, %v", x, brief(a), value, found)
	}
	w.counts["read"]++
}

// prune prunes a cell by a mark up to Top, or rarely behind it.
func (w *world) prune() {
	cell := w.d.below(len(w.cells))
	mark := w.cells[cell].Top
	mark.Wall = max(mark.Wall-w.d.below(12)+w.d.below(5)/4, 0)
	w.make(cell, prune(mark))
}

// late makes a step once more that was made at some time.
func (w *world) late() {
	if len(w.sent) == 0 {
		return
	}
	old := w.sent[w.d.below(len(w.sent))]
	if w.d.below(2) == 0 {
		old = w.sent[max(len(w.sent)-1-w.d.below(6), 0)]
	}
	c, _ := old.x.run(w.cells[old.cell])
	w.become(old.cell, "late "+old.x.String(), c)
	w.want("late " + old.x.String())
}

// some is a shard that serves, and its cell.
func (w *world) some() (int, api.Shard) {
	cell, s, there := w.server(worldKeys[w.d.below(len(worldKeys))])
	if !there {
		w.t.Fatal("nobody serves a key, and nothing is going on")
	}
	return cell, s
}

// begin begins to move, split or merge shards, or to open a snapshot.
func (w *world) begin() {
	from, s := w.some()
	switch w.d.below(6) {
	case 0, 1:
		w.beginMove(from, (from+1+w.d.below(2))%3, s)
	case 2, 3:
		key := worldKeys[w.d.below(len(worldKeys))]
		if key <= s.Span.Lo || !liesIn(key, s.Span.Lo, s.Span.Hi) || len(w.cells[from].Shards) == topShards {
			return
		}
		id := w.number()
		w.busy = append(w.busy, func() { w.make(from, split(s.ID, s.Epoch, key, id, id)) })
	case 4:
		i := slices.IndexFunc(w.cells[from].Shards, func(o api.Shard) bool { return s.Span.Hi != "" && o.Span.Lo == s.Span.Hi })
		if i >= 0 {
			other := w.cells[from].Shards[i].ID
			id := w.number()
			w.busy = append(w.busy, func() { w.make(from, merge(s.ID, other, s.Epoch, id)) })
		}
	case 5:
		w.beginOpen()
	}
}

// beginMove moves s, or gives it up at some point before it serves.
func (w *world) beginMove(from, to int, s api.Shard) {
	if len(w.cells[to].Shards) == topShards {
		return
	}
	id := w.number()
	var out api.Shard
	steps := []func(){
		func() {
			w.make(from, freeze(s.ID, s.Epoch, id))
			out = shardOf(w.cells[from], s.ID)
		},
		func() { w.make(to, install(out, id)) },
		func() {
			w.make(to, serve(s.ID, id, id))
			in := shardOf(w.cells[to], s.ID)
			if !slices.EqualFunc(in.Entries, out.Entries, sameEntry) && order(in.Mark, out.Mark) == 0 || !slices.EqualFunc(in.Done, out.Done, sameRow) || in.Span != out.Span {
				w.t.Fatalf("%s has become %s by its move", brief(out), brief(in))
			}
		},
		func() { w.make(from, retire(s.ID, id)) },
	}
	if n := w.d.below(5); n < 3 {
		steps = append(steps[:n], func() { w.make(to, drop(s.ID, id)) }, func() { w.make(from, thaw(s.ID, id)) })
	}
	w.busy = append(w.busy, steps...)
}

// beginOpen holds all shards and frees them at the latest Top of their cells.
func (w *world) beginOpen() {
	lease := w.number()
	var top api.Stamp
	var frees []func()
	for i, c := range w.cells {
		for _, s := range c.Shards {
			w.busy = append(w.busy, func() {
				w.make(i, hold(s.ID, s.Epoch, lease))
				top = laterOf(top, w.cells[i].Top)
			})
			frees = append(frees, func() { w.make(i, free(s.ID, lease, top)) })
		}
	}
	w.busy = append(w.busy, frees...)
}

// step does something.
func (w *world) step() {
	switch w.d.below(10) {
	case 0, 1, 2, 3:
		w.write()
		w.want("a write")
	case 4:
		w.again()
	case 5:
		w.read()
		w.want("a read")
	case 6:
		w.late()
	case 7:
		if w.d.below(3) == 0 {
			w.prune()
			w.want("a Prune")
		}
	default:
		if len(w.busy) == 0 {
			w.begin()
			return
		}
		next := w.busy[0]
		w.busy = w.busy[1:]
		next()
		w.want(w.sent[len(w.sent)-1].x.String())
	}
}

func TestHistories(t *testing.T) {
	counts := map[string]int{}
	for n := range 60 {
		w := newWorld(t, n)
		for range 600 {
			w.step()
		}
		for what, n := range w.counts {
			counts[what] += n
		}
	}
	for _, what := range []string{"write", "again", "read", "clash", "Hold", "Free", "Freeze", "Thaw", "Retire", "Install", "Serve", "Drop", "Split", "Merge", "Prune"} {
		if counts[what] < 100 {
			t.Errorf("the histories have %d of %s", counts[what], what)
		}
	}
}

// The consequences by themselves

// A shard that is frozen, installed, served, split and merged contains what it contained.
func TestAShardThatWanders(t *testing.T) {
	from := several()
	s := shardOf(from, 2)
	run := func(c api.Cell, x step) api.Cell {
		t.Helper()
		after, ok := x.run(c)
		if !ok || !engine.Right(after) {
			t.Fatalf("%s of %s is %s, %v", x, brief(c), brief(after), ok)
		}
		return after
	}
	from = run(from, freeze(2, 3, 30))
	out, _ := engine.Find(from, 2)
	to := run(api.Cell{Top: wall(3)}, install(out, 30))
	from = run(from, retire(2, 30))
	to = run(to, serve(2, 30, 31))
	to = run(to, split(2, 31, "e", 32, 32))
	to = run(to, split(32, 32, "g", 33, 33))
	to = run(to, merge(32, 33, 33, 34))
	to = run(to, merge(2, 32, 32, 35))
	want := clonedShard(s)
	want.Epoch, want.Top, want.Move, want.Closed = 35, at(10, 2, 1), 0, 30
	if len(to.Shards) != 1 || !sameShard(to.Shards[0], want) {
		t.Errorf("the shard has become %s, want %s", brief(to), brief(want))
	}
	if to.Top != at(10, 2, 1) || to.Dropped != 30 {
		t.Errorf("its cell has become %s", brief(to))
	}
	if _, there := engine.Find(from, 2); there {
		t.Errorf("it is still in %s", brief(from))
	}
}

// A write that is asked again behind a move, a split or a merge has the answer that it had, as long as its Req is that of the row.
func TestAWriteThatIsAskedAgain(t *testing.T) {
	for _, x := range eachOfTwo() {
		if !isWrite(x.r.Kind) {
			continue
		}
		c, a := x.run(several())
		x.now = lastStamp
		wantAnswer(t, c, x, a)
		held, _ := hold(2, 3, 5).run(c)
		wantError(t, held, x, api.ErrBusy)
		freed, _ := free(2, 5, wall(20)).run(held)
		wantAnswer(t, freed, x, a)
		out, _ := freeze(2, 3, 30).run(c)
		wantError(t, out, x, api.ErrBusy)
		s, _ := engine.Find(out, 2)
		to, _ := install(s, 30).run(api.Cell{})
		wantError(t, to, x, api.ErrBusy)
		to, _ = serve(2, 30, 31).run(to)
		wantError(t, to, x, api.ErrStale)
		x.epoch = 31
		wantAnswer(t, to, x, a)
		parted, _ := split(2, 31, "bb", 32, 32).run(to)
		x.epoch = 32
		if x.r.Key >= "bb" {
			x.id = 32
		}
		wantAnswer(t, parted, x, a)
		merged, _ := merge(2, 32, 32, 33).run(parted)
		x.id, x.epoch = 2, 33
		wantAnswer(t, merged, x, a)
		// By the next write of its client it is old.
		later := x.by(x.r.Client, x.r.Req+1)
		later.now = wall(20)
		last, b := later.run(merged)
		wantError(t, last, x, api.ErrStale)
		wantAnswer(t, last, later, b)
	}
}

// What was read at a stamp is read there again, whatever is written and pruned in the meantime, up to the mark.
func TestReadsAreRepeated(t *testing.T) {
	c := several()
	read := ofTwo(api.GetAt, "b", "").at(wall(12))
	page := ofTwo(api.Page, "b", "").at(wall(12)).to("", 8)
	c, first := read.run(c)
	c, firstPage := page.run(c)
	for i, kind := range []int{api.Put, api.Delete, api.Put, api.Delete, api.Put} {
		x := ofTwo(kind, "b", "new").by(6, i+1)
		x.now = wall(12)
		wantError(t, c, x, api.ErrArg)
		x.now = wall(13 + i)
		after, a := x.run(c)
		if a.Err != api.OK {
			t.Fatalf("%s answers %s", x, brief(a))
		}
		c, _ = prune(wall(min(i+8, 12))).run(after)
		wantAnswer(t, c, read, first)
		wantAnswer(t, c, page, firstPage)
	}
	c, _ = prune(at(12, 0, 1)).run(c)
	wantError(t, c, read, api.ErrExpired)
	wantError(t, c, page, api.ErrExpired)
}

// Steps that come late, when all is over, change nothing that is read.
func TestLateSteps(t *testing.T) {
	c, _ := freeze(2, 3, 30).run(several())
	out, _ := engine.Find(c, 2)
	thawed, _ := thaw(2, 30).run(c)
	wantRefused(t, thawed, freeze(2, 3, 30))
	wantNoEffect(t, thawed, thaw(2, 30))
	wantRefused(t, thawed, retire(2, 30))
	dropped, _ := drop(2, 30).run(api.Cell{})
	wantRefused(t, dropped, install(out, 30))
	wantNoEffect(t, dropped, drop(2, 30))
	wantRefused(t, dropped, serve(2, 30, 31))
	in, _ := install(out, 30).run(api.Cell{})
	wantNoEffect(t, in, install(out, 30))
	served, _ := serve(2, 30, 31).run(in)
	wantNoEffect(t, served, serve(2, 30, 31))
	wantRefused(t, served, install(out, 30))
	wantNoEffect(t, served, drop(2, 30))
	moved, _ := freeze(2, 31, 40).run(served)
	moved, _ = retire(2, 40).run(moved)
	wantRefused(t, moved, install(out, 30))
	wantRefused(t, moved, serve(2, 30, 31))
	wantNoEffect(t, moved, retire(2, 40))
}
