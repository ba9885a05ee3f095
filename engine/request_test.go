package engine_test

import (
	"fmt"
	"math"
	"slices"
	"strings"
	"testing"

	"stratigraph/api"
	"stratigraph/engine"
)

// asked is what Do is called with, but for the cell.
type asked struct {
	id, epoch int
	r         api.Request
	now       api.Stamp
	wall      int
}

func (x asked) run(c api.Cell) (api.Cell, api.Answer) {
	return engine.Do(c, x.id, x.epoch, x.r, x.now, x.wall)
}

func (x asked) String() string {
	return fmt.Sprintf("Do of shard %d, epoch %d, %s, now %v, wall %d", x.id, x.epoch, brief(x.r), x.now, x.wall)
}

// ofTwo asks the shard 2 of the cell of four shards, at 11.0.0 and at wall 11, for client 6 and its request 1.
func ofTwo(kind int, k, value string) asked {
	return asked{2, 3, api.Request{Client: 6, Req: 1, Kind: kind, Key: k, Value: value}, wall(11), 11}
}

func (x asked) by(client, req int) asked {
	x.r.Client, x.r.Req = client, req
	return x
}

// had is a Swap that expects this value, and without is one that expects none.
func (x asked) had(old string) asked {
	x.r.Had, x.r.Old = true, old
	return x
}

func (x asked) without(old string) asked {
	x.r.Had, x.r.Old = false, old
	return x
}

func (x asked) at(s api.Stamp) asked {
	x.r.At = s
	return x
}

func (x asked) to(hi string, limit int) asked {
	x.r.Hi, x.r.Limit = hi, limit
	return x
}

// What the chapter says of Do, in its words.

func isWrite(kind int) bool { return kind == api.Put || kind == api.Delete || kind == api.Swap }

func told(err api.Errno) api.Answer { return api.Answer{Err: err} }

func meantBy(c api.Cell, x asked) (api.Cell, api.Answer) {
	if !validCell(c) || !fromOne(x.id) || !fromOne(x.epoch) || !validStamp(x.now) {
		return c, told(api.ErrArg)
	}
	if !validRequest(x.r) || !fromZero(x.wall) {
		return c, told(api.ErrArg)
	}
	m := opened(c)
	s, there := m.shards[x.id]
	switch {
	case !there, s.Epoch != x.epoch, !liesIn(x.r.Key, s.Span.Lo, s.Span.Hi), x.r.Key == "" && s.Span.Lo != "":
		return c, told(api.ErrStale)
	case s.Phase != serving, isWrite(x.r.Kind) && s.Hold != 0:
		return c, told(api.ErrBusy)
	}
	var a api.Answer
	switch x.r.Kind {
	case api.Put, api.Delete, api.Swap:
		s, a = writtenTo(s, x, c.Top)
		if a.Err != api.OK && a.Err != api.ErrClash || sameShard(s, m.shards[x.id]) {
			return c, a
		}
		m.shards[x.id] = s
		m.top = x.now
	case api.Get:
		if v, there := versionAt(s.Entries, x.r.Key, c.Top); there {
			a.At, a.Found, a.Value = v.At, !v.Gone, v.Value
		}
	default:
		switch {
		case order(x.r.At, s.Mark) < 0:
			return c, told(api.ErrExpired)
		case x.r.At.Wall > x.wall+topSkew:
			return c, told(api.ErrSkew)
		}
		m.top = laterOf(m.top, x.r.At)
		a = seenAt(s, x.r)
	}
	return m.closed(), a
}

// writtenTo is the shard after a write, and the answer; the shard that is as it was tells that there is no effect.
func writtenTo(s api.Shard, x asked, top api.Stamp) (api.Shard, api.Answer) {
	before, r := s, x.r
	mine := slices.IndexFunc(s.Done, func(d api.Done) bool { return d.Client == r.Client })
	switch {
	case mine >= 0 && s.Done[mine].Req == r.Req:
		return before, s.Done[mine].Answer
	case mine >= 0 && s.Done[mine].Req > r.Req:
		return before, told(api.ErrStale)
	case order(x.now, top) <= 0:
		return before, told(api.ErrArg)
	}
	value, found := valueIn(s.Entries, r.Key, top)
	a := api.Answer{At: x.now, Found: found}
	full := false
	switch {
	case r.Kind == api.Swap && (r.Had != found || found && r.Old != value):
		a.Err, a.Value = api.ErrClash, value
	case r.Kind == api.Delete:
		if found {
			s.Entries, full = added(s.Entries, r.Key, api.Version{At: x.now, Gone: true})
		}
	default:
		s.Entries, full = added(s.Entries, r.Key, api.Version{At: x.now, Value: r.Value})
	}
	if full || mine < 0 && len(s.Done) == topClients {
		return before, told(api.ErrFull)
	}
	s.Done = slices.DeleteFunc(clone(s.Done), func(d api.Done) bool { return d.Client == r.Client })
	s.Done = append(s.Done, row(r.Client, r.Req, a))
	slices.SortFunc(s.Done, func(d, e api.Done) int { return d.Client - e.Client })
	return s, a
}

// added is ix with a version of k, and whether there is no room for it.
func added(ix []api.Entry, k string, v api.Version) ([]api.Entry, bool) {
	for i, e := range ix {
		if e.Key == k {
			ix = clone(ix)
			ix[i].Chain = append(clone(e.Chain), v)
			return ix, len(e.Chain) == topVersions
		}
	}
	full := len(ix) == topEntries
	ix = append(clone(ix), entry(k, v))
	slices.SortFunc(ix, func(a, b api.Entry) int { return strings.Compare(a.Key, b.Key) })
	return ix, full
}

func versionAt(ix []api.Entry, k string, s api.Stamp) (last api.Version, there bool) {
	for _, e := range ix {
		for _, v := range e.Chain {
			if e.Key == k && order(v.At, s) <= 0 {
				last, there = v, true
			}
		}
	}
	return last, there
}

func valueIn(ix []api.Entry, k string, s api.Stamp) (string, bool) {
	v, there := versionAt(ix, k, s)
	return v.Value, there && !v.Gone
}

// seenAt is the answer to a GetAt or a Page.
func seenAt(s api.Shard, r api.Request) api.Answer {
	a := api.Answer{At: r.At}
	if r.Kind == api.GetAt {
		a.Value, a.Found = valueIn(s.Entries, r.Key, r.At)
		return a
	}
	for _, e := range s.Entries {
		value, alive := valueIn(s.Entries, e.Key, r.At)
		if !alive || !liesIn(e.Key, r.Key, r.Hi) {
			continue
		}
		if len(a.Items) == r.Limit {
			a.Next, a.More = e.Key, true
			return a
		}
		a.Items = append(a.Items, api.Item{Key: e.Key, Value: value})
	}
	if s.Span.Hi != "" && (r.Hi == "" || r.Hi > s.Span.Hi) {
		a.Next, a.More = s.Span.Hi, true
	}
	return a
}

// What is wanted of Do.

func wantDo(t *testing.T, c api.Cell, x asked, want api.Cell, wantA api.Answer) {
	t.Helper()
	l := lent(c)
	before := memory(l)
	got, a := x.run(l)
	if !sameAnswer(a, wantA) {
		t.Fatalf("%s of\n%s answers\n%s, want\n%s", x, brief(c), brief(a), brief(wantA))
	}
	if !same(got, want) {
		t.Fatalf("%s of\n%s leaves\n%s, want\n%s", x, brief(c), brief(got), brief(want))
	}
	wantKept(t, "Do", l, before)
	for i := range a.Items {
		a.Items[i].Key = "mine"
	}
	_ = append(a.Items, api.Item{Key: "mine"})
	if !same(got, c) {
		scribble(got)
	}
	wantKept(t, "Do, written to,", l, before)
	byChapter, answer := meantBy(c, x)
	if !same(byChapter, want) || !sameAnswer(answer, wantA) {
		t.Fatalf("by the chapter, %s of\n%s leaves\n%s and answers\n%s, want\n%s\n%s", x, brief(c), brief(byChapter), brief(answer), brief(want), brief(wantA))
	}
}

func wantDoByDefinition(t *testing.T, c api.Cell, x asked) {
	t.Helper()
	want, a := meantBy(c, x)
	wantDo(t, c, x, want, a)
}

func wantError(t *testing.T, c api.Cell, x asked, err api.Errno) {
	t.Helper()
	wantDo(t, c, x, c, told(err))
}

// wantAnswer asks for this answer and for the cell as it was.
func wantAnswer(t *testing.T, c api.Cell, x asked, a api.Answer) {
	t.Helper()
	wantDo(t, c, x, c, a)
}

// wantSeen asks for this answer and for the cell as it was, but with the later one of Top and At.
func wantSeen(t *testing.T, c api.Cell, x asked, a api.Answer) {
	t.Helper()
	a.At = x.r.At
	wantDo(t, c, x, changed(c, func(c *api.Cell) { c.Top = laterOf(c.Top, x.r.At) }), a)
}

// wantWritten asks for this answer at now, which becomes the client's row and Top, and for ix as the shard's Entries.
func wantWritten(t *testing.T, c api.Cell, x asked, a api.Answer, ix []api.Entry) {
	t.Helper()
	a.At = x.now
	want := altered(c, x.id, func(s *api.Shard) {
		s.Entries = ix
		s.Done = slices.DeleteFunc(s.Done, func(d api.Done) bool { return d.Client == x.r.Client })
		s.Done = append(s.Done, row(x.r.Client, x.r.Req, a))
		slices.SortFunc(s.Done, func(d, e api.Done) int { return d.Client - e.Client })
	})
	want.Top = x.now
	wantDo(t, c, x, want, a)
}

// eachOfTwo are requests of each kind that the shard 2 answers by no error.
func eachOfTwo() []asked {
	return []asked{
		ofTwo(api.Put, "c", "v"), ofTwo(api.Delete, "b", ""), ofTwo(api.Swap, "b", "v").had("x"), ofTwo(api.Swap, "c", "v"),
		ofTwo(api.Get, "b", ""), ofTwo(api.GetAt, "b", "").at(wall(3)), ofTwo(api.GetAt, "b", "").at(wall(12)), ofTwo(api.Page, "b", "").at(wall(4)).to("m", 3),
	}
}

// P11.2: arguments that are none

func TestDoOfEachKind(t *testing.T) {
	for _, x := range eachOfTwo() {
		_, a := x.run(several())
		if a.Err != api.OK {
			t.Errorf("%s answers %s", x, brief(a))
		}
		wantDoByDefinition(t, several(), x)
	}
}

func TestDoOfCellsThatAreNotValid(t *testing.T) {
	for _, c := range badCells() {
		for _, x := range eachOfTwo() {
			wantError(t, c, x, api.ErrArg)
		}
	}
}

func TestDoWithWrongArguments(t *testing.T) {
	for _, c := range []api.Cell{several(), {}, lone()} {
		for _, x := range eachOfTwo() {
			for _, n := range badNumbers {
				bad := x
				bad.id = n
				wantError(t, c, bad, api.ErrArg)
				bad = x
				bad.epoch = n
				wantError(t, c, bad, api.ErrArg)
				if bad = x; n != 0 {
					bad.wall = n
					wantError(t, c, bad, api.ErrArg)
				}
			}
			for _, s := range badStamps {
				bad := x
				bad.now = s
				wantError(t, c, bad, api.ErrArg)
			}
			for _, r := range badRequests(x.r) {
				bad := x
				bad.r = r
				wantError(t, c, bad, api.ErrArg)
			}
		}
	}
	x := ofTwo(api.Get, "b", "")
	for _, n := range []int{0, 1, topNum - 1, topNum} {
		x.wall = n
		wantAnswer(t, several(), x, api.Answer{At: wall(2), Found: true, Value: "x"})
	}
	x.now = lastStamp
	wantAnswer(t, several(), x, api.Answer{At: wall(2), Found: true, Value: "x"})
}

// badRequests are requests that are not valid, each for one reason: r, which is valid, with one change.
func badRequests(r api.Request) []api.Request {
	var l []api.Request
	add := func(change func(r *api.Request)) {
		bad := r
		change(&bad)
		l = append(l, bad)
	}
	for _, n := range badNumbers {
		add(func(r *api.Request) { r.Client = n })
		add(func(r *api.Request) { r.Req = n })
		if n != 0 {
			add(func(r *api.Request) { r.Limit = n })
		}
	}
	for _, kind := range []int{0, -1, 7, 8, 256 + r.Kind, math.MinInt, math.MaxInt} {
		add(func(r *api.Request) { r.Kind = kind })
	}
	for _, k := range badKeys {
		add(func(r *api.Request) { r.Key = k })
		add(func(r *api.Request) { r.Hi = k })
	}
	for _, s := range badStamps {
		add(func(r *api.Request) { r.At = s })
	}
	add(func(r *api.Request) { r.Value = longText })
	add(func(r *api.Request) { r.Old = longText })
	add(func(r *api.Request) { r.Limit = topPage + 1 })
	if r.Kind == api.Page {
		add(func(r *api.Request) { r.Limit = 0 })
	} else {
		add(func(r *api.Request) { r.Key = "" })
	}
	return append(l, api.Request{})
}

// P11.2: which shard is asked

func TestDoOfShardsThatAreNotThere(t *testing.T) {
	for _, x := range eachOfTwo() {
		for _, id := range []int{1, 3, 4, 5, 6, 9, 10, topNum} {
			x.id = id
			wantError(t, several(), x, api.ErrStale)
			wantError(t, api.Cell{}, x, api.ErrStale)
		}
		x.id = 2
		wantError(t, api.Cell{}, x, api.ErrStale)
		for _, epoch := range []int{1, 2, 4, topNum} {
			x.epoch = epoch
			wantError(t, several(), x, api.ErrStale)
		}
	}
}

func TestDoOfKeysOutsideTheSpan(t *testing.T) {
	for _, x := range eachOfTwo() {
		for _, k := range []string{"!", "a", "azzz", "m", "m!", "z", "\U0010ffff"} {
			x.r.Key = k
			wantError(t, several(), x, api.ErrStale)
		}
		for _, k := range []string{"b", "b!", "lzzz"} {
			x.r.Key = k
			if _, a := x.run(several()); a.Err == api.ErrStale {
				t.Errorf("%s is stale", x)
			}
			wantDoByDefinition(t, several(), x)
		}
	}
}

func TestPageFromTheEmptyKey(t *testing.T) {
	page := asked{1, 1, api.Request{Client: 1, Req: 1, Kind: api.Page, Limit: 8}, wall(11), 11}
	for _, s := range []api.Span{{}, {Hi: "m"}, {Hi: "!"}, {Lo: "!"}, {Lo: "b"}, {Lo: "b", Hi: "m"}} {
		c := lone()
		c.Shards[0].Span = s
		switch {
		case s.Lo != "":
			wantError(t, c, page, api.ErrStale)
		case s.Hi != "":
			wantSeen(t, c, page, api.Answer{Next: s.Hi, More: true})
		default:
			wantSeen(t, c, page, api.Answer{})
		}
	}
	for _, k := range []int{api.Put, api.Delete, api.Swap, api.Get, api.GetAt} {
		page.r.Kind = k
		wantError(t, lone(), page, api.ErrArg)
	}
}

func TestDoInEachPhase(t *testing.T) {
	for phase := serving; phase <= ready; phase++ {
		for _, by := range []int{0, 1, 5, topNum} {
			c := altered(several(), 2, func(s *api.Shard) { s.Phase, s.Hold = phase, by })
			for _, x := range eachOfTwo() {
				_, a := x.run(c)
				busy := phase != serving || by != 0 && isWrite(x.r.Kind)
				if busy != (a.Err == api.ErrBusy) {
					t.Errorf("%s in phase %d, held by %d, answers %s", x, phase, by, brief(a))
				}
				wantDoByDefinition(t, c, x)
				if busy {
					wantError(t, c, x, api.ErrBusy)
				}
			}
		}
	}
}

// Of several wrong things, the first that the chapter names is told.
func TestTheOrderOfDosErrors(t *testing.T) {
	busy := altered(several(), 2, func(s *api.Shard) { s.Phase = frozen })
	held := altered(several(), 2, func(s *api.Shard) { s.Hold = 5 })
	// At wall 9 and now 9 the read is expired and ahead of its time at once, and the write is late.
	late := altered(several(), 2, func(s *api.Shard) { s.Mark = lastStamp })
	for _, c := range []api.Cell{busy, held, late, several(), {}} {
		for _, x := range eachOfTwo() {
			x.now = wall(9)
			x.r.Key = "m"
			wantError(t, c, x, api.ErrStale)
			for _, bad := range badRequests(x.r) {
				y := x
				y.r, y.id, y.epoch = bad, 3, 7
				wantError(t, c, y, api.ErrArg)
			}
			x.wall = -1
			wantError(t, c, x, api.ErrArg)
			x.wall = topNum + 1
			wantError(t, c, x, api.ErrArg)
		}
	}
	for _, x := range eachOfTwo() {
		x = x.by(3, 1)
		x.now, x.r.At = wall(9), at(topNum, 0, 0)
		// Stale by its epoch, busy, with a Req that is old, late, expired, ahead.
		x.epoch = 4
		wantError(t, busy, x, api.ErrStale)
		x.epoch = 3
		wantError(t, busy, x, api.ErrBusy)
		switch {
		case isWrite(x.r.Kind):
			wantError(t, held, x, api.ErrBusy)
			wantError(t, held, x.by(3, 2), api.ErrBusy)
			wantError(t, several(), x, api.ErrStale)
			wantAnswer(t, several(), x.by(3, 2), shardOf(several(), 2).Done[1].Answer)
			wantError(t, several(), x.by(3, 3), api.ErrArg)
		case x.r.Kind != api.Get:
			wantError(t, late, x, api.ErrExpired)
			wantError(t, held, x, api.ErrSkew)
			wantError(t, several(), x, api.ErrSkew)
		}
	}
	// A write that is late is late even if there is no room for it either, and even if its Swap would fail.
	full := altered(several(), 2, func(s *api.Shard) { s.Entries, s.Done = fullIndex(), fullTable() })
	for _, x := range []asked{ofTwo(api.Put, "c", "v"), ofTwo(api.Swap, "c", "v"), ofTwo(api.Swap, "c", "v").had("w"), ofTwo(api.Delete, "e000", "")} {
		wantError(t, full, x, api.ErrFull)
		x.now = wall(10)
		wantError(t, full, x, api.ErrArg)
	}
}

// P11.2: writes

func TestDoOfTheChapter(t *testing.T) {
	put := asked{1, 1, api.Request{Client: 1, Req: 1, Kind: api.Put, Key: "a", Value: "x"}, wall(5), 5}
	c, a := put.run(lone())
	if !sameAnswer(a, api.Answer{At: wall(5)}) {
		t.Errorf("Put answers %s", brief(a))
	}
	get := asked{1, 1, api.Request{Client: 2, Req: 1, Kind: api.Get, Key: "a"}, wall(7), 7}
	wantAnswer(t, c, get, api.Answer{At: wall(5), Found: true, Value: "x"})
	get.epoch = 2
	wantError(t, c, get, api.ErrStale)
}

// two are the entries of the shard 2, of which b has a value, d is gone, and f has a second value.
func two() []api.Entry { return shardOf(several(), 2).Entries }

// with is two with the version v of k, at place i; where k is there, v is appended.
func with(i int, k string, v api.Version) []api.Entry {
	ix := two()
	if i < len(ix) && ix[i].Key == k {
		ix[i].Chain = append(ix[i].Chain, v)
		return ix
	}
	return slices.Insert(ix, i, entry(k, v))
}

func TestPut(t *testing.T) {
	c := several()
	for i, k := range []string{"b", "d", "f"} {
		found := k != "d"
		for _, value := range []string{"", "v", "x", strings.Repeat("v", topValue), "\x00\xff"} {
			wantWritten(t, c, ofTwo(api.Put, k, value), api.Answer{Found: found}, with(i, k, put(11, value)))
		}
	}
	for i, k := range []string{"b!", "e", "l"} {
		wantWritten(t, c, ofTwo(api.Put, k, "v"), api.Answer{}, with(i+1, k, put(11, "v")))
	}
	// What a Swap expects is nothing to a Put, and so are At, Hi and Limit.
	wantWritten(t, c, ofTwo(api.Put, "b", "v").had("other").at(lastStamp).to("a", 8), api.Answer{Found: true}, with(0, "b", put(11, "v")))
	wantWritten(t, lone(), asked{1, 1, api.Request{Client: 1, Req: 1, Kind: api.Put, Key: "a", Value: "v"}, at(0, 0, 1), 0}, api.Answer{}, []api.Entry{entry("a", api.Version{At: at(0, 0, 1), Value: "v"})})
}

func TestDelete(t *testing.T) {
	c := several()
	wantWritten(t, c, ofTwo(api.Delete, "b", ""), api.Answer{Found: true}, with(0, "b", del(11)))
	wantWritten(t, c, ofTwo(api.Delete, "f", ""), api.Answer{Found: true}, with(2, "f", del(11)))
	// The value of the request is nothing to a Delete, nor is what a Swap expects.
	wantWritten(t, c, ofTwo(api.Delete, "f", "v").without("o"), api.Answer{Found: true}, with(2, "f", del(11)))
	wantWritten(t, c, ofTwo(api.Delete, "f", "v").had("other"), api.Answer{Found: true}, with(2, "f", del(11)))
	// Where there is no value, no version comes, but the row and Top.
	for _, k := range []string{"d", "c", "l", "b!"} {
		wantWritten(t, c, ofTwo(api.Delete, k, "v"), api.Answer{}, two())
	}
	wantWritten(t, altered(c, 2, func(s *api.Shard) { s.Entries = nil }), ofTwo(api.Delete, "b", ""), api.Answer{}, nil)
	// An empty value is one.
	empty := altered(c, 2, func(s *api.Shard) { s.Entries = []api.Entry{entry("c", put(1, ""))} })
	wantWritten(t, empty, ofTwo(api.Delete, "c", ""), api.Answer{Found: true}, []api.Entry{entry("c", put(1, ""), del(11))})
}

func TestSwap(t *testing.T) {
	c := several()
	for _, value := range []string{"", "v", "x", strings.Repeat("v", topValue)} {
		wantWritten(t, c, ofTwo(api.Swap, "b", value).had("x"), api.Answer{Found: true}, with(0, "b", put(11, value)))
		wantWritten(t, c, ofTwo(api.Swap, "f", value).had("w"), api.Answer{Found: true}, with(2, "f", put(11, value)))
		// Without Had, Old is nothing to it.
		for _, old := range []string{"", "x", "y", "other"} {
			wantWritten(t, c, ofTwo(api.Swap, "d", value).without(old), api.Answer{}, with(1, "d", put(11, value)))
			wantWritten(t, c, ofTwo(api.Swap, "c", value).without(old), api.Answer{}, with(1, "c", put(11, value)))
		}
	}
	empty := altered(c, 2, func(s *api.Shard) { s.Entries = []api.Entry{entry("c", put(1, ""))} })
	wantWritten(t, empty, ofTwo(api.Swap, "c", "v").had(""), api.Answer{Found: true}, []api.Entry{entry("c", put(1, ""), put(11, "v"))})
}

// A Swap that fails leaves the versions, but its answer is kept, and Top is now.
func TestSwapThatFails(t *testing.T) {
	c := several()
	clash := func(found bool, value string) api.Answer {
		return api.Answer{Err: api.ErrClash, Found: found, Value: value}
	}
	for _, old := range []string{"", "X", "xx", "x ", "w", "v"} {
		wantWritten(t, c, ofTwo(api.Swap, "b", "v").had(old), clash(true, "x"), two())
	}
	wantWritten(t, c, ofTwo(api.Swap, "f", "v").had("z"), clash(true, "w"), two())
	for _, old := range []string{"", "x", "w"} {
		wantWritten(t, c, ofTwo(api.Swap, "b", "v").without(old), clash(true, "x"), two())
		wantWritten(t, c, ofTwo(api.Swap, "f", "v").without(old), clash(true, "w"), two())
		for _, k := range []string{"d", "c"} {
			for _, old := range []string{"", "y", "v"} {
				wantWritten(t, c, ofTwo(api.Swap, k, "v").had(old), clash(false, ""), two())
			}
		}
	}
	empty := altered(c, 2, func(s *api.Shard) { s.Entries = []api.Entry{entry("c", put(1, ""))} })
	for _, x := range []asked{ofTwo(api.Swap, "c", "v").had("v"), ofTwo(api.Swap, "c", "v").without("")} {
		wantWritten(t, empty, x, clash(true, ""), []api.Entry{entry("c", put(1, ""))})
	}
	long := strings.Repeat("v", topValue)
	c = altered(c, 2, func(s *api.Shard) { s.Entries = []api.Entry{entry("c", put(1, long))} })
	wantWritten(t, c, ofTwo(api.Swap, "c", "v").had(long[1:]), clash(true, long), []api.Entry{entry("c", put(1, long))})
}

func TestWritesAtNow(t *testing.T) {
	for _, x := range []asked{ofTwo(api.Put, "b", "v"), ofTwo(api.Delete, "b", ""), ofTwo(api.Delete, "c", ""), ofTwo(api.Swap, "b", "v").had("x"), ofTwo(api.Swap, "b", "v")} {
		for _, now := range []api.Stamp{{}, wall(6), wall(9), wall(10), at(10, 1, 9), at(10, 2, 0), at(10, 2, 1)} {
			x.now = now
			wantError(t, several(), x, api.ErrArg)
		}
		for _, now := range []api.Stamp{at(10, 2, 2), at(10, 3, 0), wall(11), wall(topNum), lastStamp} {
			x.now = now
			got, a := x.run(several())
			if a.At != now || got.Top != now {
				t.Errorf("%s answers %s, and Top is %v", x, brief(a), got.Top)
			}
			wantDoByDefinition(t, several(), x)
		}
		// Nothing is later than the last stamp.
		c := several()
		c.Top = lastStamp
		x.now = lastStamp
		wantError(t, c, x, api.ErrArg)
		// The wall is nothing to a write.
		x.now = wall(11)
		for _, n := range []int{0, 1, topNum} {
			x.wall = n
			wantDoByDefinition(t, several(), x)
			if _, a := x.run(several()); a.At != wall(11) {
				t.Errorf("%s answers %s", x, brief(a))
			}
		}
	}
}

// The key has its value at Top of the cell, not of the shard.
func TestWritesTakeTheValueAtTheCellsTop(t *testing.T) {
	c := altered(several(), 2, func(s *api.Shard) { s.Top = api.Stamp{} })
	wantWritten(t, c, ofTwo(api.Put, "b", "v"), api.Answer{Found: true}, with(0, "b", put(11, "v")))
	wantWritten(t, c, ofTwo(api.Swap, "f", "v").had("z"), api.Answer{Err: api.ErrClash, Found: true, Value: "w"}, two())
	wantAnswer(t, c, ofTwo(api.Get, "b", ""), api.Answer{At: wall(2), Found: true, Value: "x"})
	c = altered(several(), 2, func(s *api.Shard) { s.Top = lastStamp })
	wantWritten(t, c, ofTwo(api.Put, "b", "v"), api.Answer{Found: true}, with(0, "b", put(11, "v")))
	wantSeen(t, c, ofTwo(api.GetAt, "b", "").at(wall(12)), api.Answer{Found: true, Value: "x"})
}

func TestWritesThatWereDone(t *testing.T) {
	var answers []api.Answer
	for err := range api.Errno(17) {
		answers = append(answers, api.Answer{Err: err, At: wall(5), Found: true, Value: "told"}, told(err), api.Answer{Err: err, At: lastStamp, Value: strings.Repeat("v", topValue)})
	}
	for i, a := range answers {
		c := altered(several(), 2, func(s *api.Shard) {
			s.Done = []api.Done{row(5, 9, api.Answer{}), row(6, 4, a), row(7, 1, api.Answer{})}
		})
		for _, x := range eachOfTwo() {
			if !isWrite(x.r.Kind) {
				continue
			}
			for _, now := range []api.Stamp{{}, wall(10), wall(11), lastStamp} {
				x.now = now
				wantAnswer(t, c, x.by(6, 4), a)
				for _, req := range []int{1, 2, 3} {
					wantError(t, c, x.by(6, req), api.ErrStale)
				}
			}
			// Whatever is asked this time.
			x.r.Key, x.r.Value, x.r.Kind = "l", "other", 1+i%3
			wantAnswer(t, c, x.by(6, 4), a)
			x.now = wall(11)
			for _, req := range []int{5, 6, 1 << 32, topNum} {
				if _, a := x.by(6, req).run(c); a.At != wall(11) {
					t.Errorf("%s, which is new, answers %s", x.by(6, req), brief(a))
				}
				wantDoByDefinition(t, c, x.by(6, req))
			}
			for _, client := range []int{1, 4, 8, topNum} {
				if _, a := x.by(client, 4).run(c); a.At != wall(11) {
					t.Errorf("%s, which is another client's, answers %s", x.by(client, 4), brief(a))
				}
				wantDoByDefinition(t, c, x.by(client, 4))
			}
		}
	}
}

// Rows are not asked for what is read, and what is read leaves none.
func TestReadsThatWereAskedBefore(t *testing.T) {
	c := altered(several(), 2, func(s *api.Shard) { s.Done = fullTable() })
	for _, req := range []int{1, 4, 5, 6, topNum} {
		for _, client := range []int{10, 15, 80, 90} {
			wantAnswer(t, c, ofTwo(api.Get, "b", "").by(client, req), api.Answer{At: wall(2), Found: true, Value: "x"})
			wantSeen(t, c, ofTwo(api.GetAt, "b", "").by(client, req).at(wall(12)), api.Answer{Found: true, Value: "x"})
			wantSeen(t, c, ofTwo(api.Page, "e", "").by(client, req).at(wall(4)).to("m", 3), api.Answer{Items: []api.Item{{Key: "f", Value: "z"}}})
		}
	}
}

func TestWritesToFullIndexes(t *testing.T) {
	full := fullIndex()
	full[7].Chain = append(full[7].Chain, del(2))
	c := altered(several(), 2, func(s *api.Shard) { s.Entries = full })
	last := altered(several(), 2, func(s *api.Shard) { s.Entries = full[1:] })
	for _, k := range []string{"b", "e", "e000!", "e063!", "l"} {
		for _, x := range []asked{ofTwo(api.Put, k, "v"), ofTwo(api.Swap, k, "v")} {
			wantError(t, c, x, api.ErrFull)
			// The client's row does not change then either.
			wantError(t, c, x.by(1, 6), api.ErrFull)
			if _, a := x.run(last); a.Err != api.OK {
				t.Errorf("%s of 63 entries answers %s", x, brief(a))
			}
			wantDoByDefinition(t, last, x)
		}
		wantWritten(t, c, ofTwo(api.Swap, k, "v").had("v"), api.Answer{Err: api.ErrClash}, full)
		wantWritten(t, c, ofTwo(api.Delete, k, ""), api.Answer{}, full)
	}
	for i, e := range full {
		ix := clone(full)
		ix[i].Chain = append(clone(e.Chain), put(11, "w"))
		wantWritten(t, c, ofTwo(api.Put, e.Key, "w"), api.Answer{Found: i != 7}, ix)
		if i != 7 {
			wantWritten(t, c, ofTwo(api.Swap, e.Key, "w").had("v"), api.Answer{Found: true}, ix)
			ix[i].Chain = append(clone(e.Chain), del(11))
			wantWritten(t, c, ofTwo(api.Delete, e.Key, ""), api.Answer{Found: true}, ix)
		}
	}
}

func TestWritesToFullChains(t *testing.T) {
	for _, gone := range []bool{false, true} {
		chain := fullChain()
		if gone {
			chain[topVersions-1] = del(topVersions)
		}
		ix := []api.Entry{entry("b", put(1, "v")), entry("c", chain...), entry("d", put(1, "v"))}
		c := altered(several(), 2, func(s *api.Shard) { s.Entries = ix })
		c.Top = wall(topVersions)
		ask := func(kind int, k string) asked {
			x := ofTwo(kind, k, "w")
			x.now = wall(99)
			return x
		}
		wantError(t, c, ask(api.Put, "c"), api.ErrFull)
		swap := ask(api.Swap, "c").had("v")
		if gone {
			wantWritten(t, c, ask(api.Delete, "c"), api.Answer{}, ix)
			wantError(t, c, swap.without(""), api.ErrFull)
			wantWritten(t, c, swap, api.Answer{Err: api.ErrClash}, ix)
		} else {
			wantError(t, c, ask(api.Delete, "c"), api.ErrFull)
			wantError(t, c, swap, api.ErrFull)
			wantWritten(t, c, swap.without(""), api.Answer{Err: api.ErrClash, Found: true, Value: "v"}, ix)
		}
		// The other keys of the shard have room, and so has a chain of one version less.
		if _, a := ask(api.Put, "d").run(c); a.Err != api.OK {
			t.Errorf("Put of d answers %s", brief(a))
		}
		c.Shards[0].Entries[1].Chain = chain[1:]
		for _, kind := range []int{api.Put, api.Delete} {
			if _, a := ask(kind, "c").run(c); a.Err != api.OK {
				t.Errorf("%s with 63 versions answers %s", ask(kind, "c"), brief(a))
			}
			wantDoByDefinition(t, c, ask(kind, "c"))
		}
	}
}

func TestWritesToFullTables(t *testing.T) {
	c := altered(several(), 2, func(s *api.Shard) { s.Done = fullTable() })
	last := altered(several(), 2, func(s *api.Shard) { s.Done = fullTable()[1:] })
	for _, x := range []asked{ofTwo(api.Put, "b", "v"), ofTwo(api.Put, "c", "v"), ofTwo(api.Delete, "b", ""), ofTwo(api.Delete, "c", ""), ofTwo(api.Swap, "b", "v").had("x"), ofTwo(api.Swap, "b", "v")} {
		for _, client := range []int{1, 15, 79, 81, topNum} {
			wantError(t, c, x.by(client, 6), api.ErrFull)
			if _, a := x.by(client, 6).run(last); a.At != wall(11) {
				t.Errorf("%s with a table of seven clients answers %s", x.by(client, 6), brief(a))
			}
			wantDoByDefinition(t, last, x.by(client, 6))
		}
		for _, d := range fullTable() {
			if _, a := x.by(d.Client, 6).run(c); a.At != wall(11) {
				t.Errorf("%s of a client with a row answers %s", x.by(d.Client, 6), brief(a))
			}
			wantDoByDefinition(t, c, x.by(d.Client, 6))
		}
	}
}

// P11.2: Get

func TestGet(t *testing.T) {
	c := several()
	wantAnswer(t, c, ofTwo(api.Get, "b", ""), api.Answer{At: wall(2), Found: true, Value: "x"})
	wantAnswer(t, c, ofTwo(api.Get, "d", ""), api.Answer{At: wall(5)})
	wantAnswer(t, c, ofTwo(api.Get, "f", ""), api.Answer{At: wall(6), Found: true, Value: "w"})
	for _, k := range []string{"b!", "c", "e", "l"} {
		wantAnswer(t, c, ofTwo(api.Get, k, ""), api.Answer{})
	}
	// Neither At nor the Mark, neither the wall nor now tell.
	x := ofTwo(api.Get, "f", "other").at(wall(4))
	x.now = api.Stamp{}
	x.wall = 0
	for _, mark := range []api.Stamp{{}, wall(5), lastStamp} {
		c := altered(c, 2, func(s *api.Shard) { s.Mark = mark })
		wantAnswer(t, c, x, api.Answer{At: wall(6), Found: true, Value: "w"})
		wantAnswer(t, c, x.at(lastStamp), api.Answer{At: wall(6), Found: true, Value: "w"})
	}
	c.Shards[0].Entries[0].Chain = []api.Version{{At: c.Top, Value: ""}}
	wantAnswer(t, c, ofTwo(api.Get, "b", ""), api.Answer{At: c.Top, Found: true})
	c.Shards[0].Entries[0].Chain = []api.Version{{At: api.Stamp{}, Value: "v"}}
	wantAnswer(t, c, ofTwo(api.Get, "b", ""), api.Answer{Found: true, Value: "v"})
}

// P11.2: GetAt

func TestGetAt(t *testing.T) {
	c := several()
	values := map[string][]string{"b": {2: "x"}, "f": {4: "z", 6: "w"}}
	for n := 2; n <= 12; n++ {
		for k, l := range values {
			var a api.Answer
			for i, value := range l {
				if value != "" && i <= n {
					a.Found, a.Value = true, value
				}
			}
			wantSeen(t, c, ofTwo(api.GetAt, k, "").at(wall(n)), a)
			wantSeen(t, c, ofTwo(api.GetAt, k, "").at(at(n, 5, 5)), a)
		}
		wantSeen(t, c, ofTwo(api.GetAt, "c", "").at(wall(n)), api.Answer{})
		if n == 3 || n == 4 {
			wantSeen(t, c, ofTwo(api.GetAt, "d", "").at(wall(n)), api.Answer{Found: true, Value: "y"})
		} else {
			wantSeen(t, c, ofTwo(api.GetAt, "d", "").at(wall(n)), api.Answer{})
		}
	}
}

// eachRead calls f with a GetAt and a Page of the shard 2 that both tell of the one key f at 7 and later.
func eachRead(f func(x asked, a api.Answer)) {
	f(ofTwo(api.GetAt, "f", ""), api.Answer{Found: true, Value: "w"})
	f(ofTwo(api.Page, "e", "").to("g", 2), api.Answer{Items: []api.Item{{Key: "f", Value: "w"}}})
}

func TestReadsAtTheMark(t *testing.T) {
	eachRead(func(x asked, a api.Answer) {
		c := altered(several(), 2, func(s *api.Shard) { s.Mark = at(8, 1, 1) })
		for _, s := range []api.Stamp{{}, wall(7), at(7, 9, 9), wall(8), at(8, 0, 9), at(8, 1, 0)} {
			wantError(t, c, x.at(s), api.ErrExpired)
		}
		for _, s := range []api.Stamp{at(8, 1, 1), at(8, 1, 2), at(8, 2, 0), wall(9), wall(10), at(10, 2, 1), at(10, 2, 2), wall(11)} {
			wantSeen(t, c, x.at(s), a)
		}
		// The marks of the other shards are nothing to it.
		c = altered(several(), 4, func(s *api.Shard) { s.Mark = lastStamp })
		wantSeen(t, c, x.at(wall(7)), a)
		// A Mark that is later than Top refuses what is at Top.
		c = altered(several(), 2, func(s *api.Shard) { s.Mark = wall(12) })
		wantError(t, c, x.at(at(10, 2, 1)), api.ErrExpired)
		wantError(t, c, x.at(wall(11)), api.ErrExpired)
		wantSeen(t, c, x.at(wall(12)), a)
	})
}

func TestReadsRaiseTop(t *testing.T) {
	eachRead(func(x asked, a api.Answer) {
		for _, s := range []api.Stamp{wall(7), wall(10), at(10, 2, 0), at(10, 2, 1), at(10, 2, 2), at(10, 3, 0), wall(11), wall(1011), at(1011, topTick, topNode)} {
			got, _ := x.at(s).run(several())
			if got.Top != laterOf(at(10, 2, 1), s) {
				t.Errorf("%s leaves the Top %v", x.at(s), got.Top)
			}
			wantSeen(t, several(), x.at(s), a)
		}
		// now is nothing to a read.
		for _, now := range []api.Stamp{{}, wall(10), wall(500), lastStamp} {
			x.now = now
			wantSeen(t, several(), x.at(wall(12)), a)
		}
	})
}

func TestReadsAheadOfTheWall(t *testing.T) {
	eachRead(func(x asked, a api.Answer) {
		c := several()
		for _, n := range []int{0, 1, 10, 11, 5000, topNum - topSkew - 1, topNum - topSkew, topNum - topSkew + 1, topNum} {
			x.wall = n
			for _, ahead := range []int{0, 1, topSkew - 1, topSkew, topSkew + 1, topSkew + 2, 2 * topSkew} {
				for _, s := range []api.Stamp{wall(n + ahead), at(n+ahead, topTick, topNode)} {
					switch {
					case n+ahead < 7:
					case n+ahead > topNum:
						wantError(t, c, x.at(s), api.ErrArg)
					case ahead > topSkew:
						wantError(t, c, x.at(s), api.ErrSkew)
					default:
						wantSeen(t, c, x.at(s), a)
					}
				}
			}
		}
		x.wall = 0
		wantError(t, c, x.at(lastStamp), api.ErrSkew)
		x.wall = topNum
		wantSeen(t, c, x.at(wall(7)), a)
		// Also where Top is as far ahead already.
		c.Top = lastStamp
		x.wall = 10
		wantError(t, c, x.at(wall(1011)), api.ErrSkew)
		wantSeen(t, c, x.at(wall(1010)), a)
	})
}

// P11.2: Page

// pages is a cell with one shard that has the keys c, e and g, of which e is gone from 5 on, and d, which never had a value.
func pages(s api.Span) api.Cell {
	c := lone()
	c.Top = wall(10)
	c.Shards[0].Span = s
	c.Shards[0].Entries = []api.Entry{entry("c", put(1, "C"), put(6, "CC")), entry("d", del(2)), entry("e", put(3, "E"), del(5)), entry("g", put(4, "G"))}
	return c
}

func pageOf(lo, hi string, limit int) asked {
	return asked{1, 1, api.Request{Client: 1, Req: 1, Kind: api.Page, Key: lo, Hi: hi, Limit: limit, At: wall(7)}, wall(11), 11}
}

func TestPage(t *testing.T) {
	c := pages(api.Span{})
	all := []api.Item{{Key: "c", Value: "CC"}, {Key: "g", Value: "G"}}
	wantSeen(t, c, pageOf("", "", 8), api.Answer{Items: all})
	wantSeen(t, c, pageOf("", "", 2), api.Answer{Items: all})
	wantSeen(t, c, pageOf("", "", 1), api.Answer{Items: all[:1], Next: "g", More: true})
	wantSeen(t, c, pageOf("c", "", 1), api.Answer{Items: all[:1], Next: "g", More: true})
	wantSeen(t, c, pageOf("c!", "", 1), api.Answer{Items: all[1:]})
	wantSeen(t, c, pageOf("c", "g", 1), api.Answer{Items: all[:1]})
	wantSeen(t, c, pageOf("c", "g!", 1), api.Answer{Items: all[:1], Next: "g", More: true})
	wantSeen(t, c, pageOf("g", "c", 1), api.Answer{})
	wantSeen(t, c, pageOf("c", "c", 1), api.Answer{})
	wantSeen(t, c, pageOf("z", "", 1), api.Answer{})
	earlier := []api.Item{{Key: "c", Value: "C"}, {Key: "e", Value: "E"}, {Key: "g", Value: "G"}}
	wantSeen(t, c, pageOf("", "", 8).at(wall(4)), api.Answer{Items: earlier})
	wantSeen(t, c, pageOf("", "", 2).at(wall(4)), api.Answer{Items: earlier[:2], Next: "g", More: true})
	wantSeen(t, c, pageOf("", "", 2).at(wall(3)), api.Answer{Items: earlier[:2]})
	wantSeen(t, c, pageOf("", "", 1).at(wall(5)), api.Answer{Items: earlier[:1], Next: "g", More: true})
	wantSeen(t, c, pageOf("", "", 8).at(api.Stamp{}), api.Answer{})
}

func TestPageAndTheEndOfTheSpan(t *testing.T) {
	c := pages(api.Span{Hi: "m"})
	all := []api.Item{{Key: "c", Value: "CC"}, {Key: "g", Value: "G"}}
	beyond := api.Answer{Items: all, Next: "m", More: true}
	wantSeen(t, c, pageOf("", "", 8), beyond)
	wantSeen(t, c, pageOf("", "", 2), beyond)
	wantSeen(t, c, pageOf("", "m!", 2), beyond)
	wantSeen(t, c, pageOf("", "z", 8), beyond)
	wantSeen(t, c, pageOf("", "m", 8), api.Answer{Items: all})
	wantSeen(t, c, pageOf("", "l", 8), api.Answer{Items: all})
	wantSeen(t, c, pageOf("", "lzz", 2), api.Answer{Items: all})
	wantSeen(t, c, pageOf("", "g", 8), api.Answer{Items: all[:1]})
	// Where the page is full, the next key is one of the shard's, if it has another.
	for _, hi := range []string{"", "z", "m", "l", "h"} {
		wantSeen(t, c, pageOf("", hi, 1), api.Answer{Items: all[:1], Next: "g", More: true})
	}
	wantSeen(t, c, pageOf("h", "", 8), api.Answer{Next: "m", More: true})
	wantSeen(t, c, pageOf("h", "n", 8), api.Answer{Next: "m", More: true})
	wantSeen(t, c, pageOf("h", "m", 8), api.Answer{})
	wantSeen(t, c, pageOf("h", "i", 8), api.Answer{})
	wantSeen(t, c, pageOf("h", "b", 8), api.Answer{})
	none := api.Cell{Top: wall(10), Shards: []api.Shard{{ID: 1, Epoch: 1, Phase: serving, Span: api.Span{Lo: "b", Hi: "m"}}}}
	wantSeen(t, none, pageOf("b", "", 8), api.Answer{Next: "m", More: true})
	wantSeen(t, none, pageOf("b", "m", 8), api.Answer{})
	wantSeen(t, none, pageOf("b", "a", 8), api.Answer{})
}

func TestPagesByDefinition(t *testing.T) {
	bounds := []string{"", "a", "b", "c", "c!", "d", "e", "f", "g", "g!", "m", "m!", "z"}
	for _, s := range []api.Span{{}, {Hi: "m"}, {Hi: "g!"}, {Lo: "b"}, {Lo: "b", Hi: "m"}, {Lo: "c", Hi: "h"}, {Lo: "c", Hi: "\u00e9"}} {
		c := pages(s)
		for _, lo := range bounds {
			for _, hi := range bounds {
				for _, limit := range []int{1, 2, 3, 4, 8} {
					for _, n := range []int{0, 4, 7, 12} {
						wantDoByDefinition(t, c, pageOf(lo, hi, limit).at(wall(n)))
					}
				}
			}
		}
	}
}

func TestFullPages(t *testing.T) {
	c := altered(several(), 2, func(s *api.Shard) { s.Entries = fullIndex() })
	for limit := 1; limit <= topPage; limit++ {
		seen, from := 0, "b"
		for from != "m" {
			x := ofTwo(api.Page, from, "").at(wall(5)).to("", limit)
			wantDoByDefinition(t, c, x)
			_, a := x.run(c)
			for _, item := range a.Items {
				if item.Key != fmt.Sprintf("e%03d", seen) {
					t.Errorf("%s has %q at place %d", x, item.Key, seen)
				}
				seen++
			}
			if from = a.Next; !a.More {
				t.Fatalf("%s ends before its span", x)
			}
		}
		if seen != topEntries {
			t.Errorf("pages of %d have %d keys", limit, seen)
		}
	}
}

// Mixed requests

// request is one that a shard of c often answers by no error.
func (d *dice) request(c api.Cell) asked {
	x := asked{id: d.shardID(c), now: laterOf(c.Top, d.stamp()), wall: d.one(0, 3, 8, 9, topNum)}
	s, _ := engine.Find(c, x.id)
	x.epoch = d.one(s.Epoch, s.Epoch, s.Epoch, s.Epoch, d.near(s.Epoch))
	if d.below(8) > 0 {
		x.now.Tick++
	}
	x.r = api.Request{Client: d.one(1, 2, 3, 4, 5, d.number()), Req: 1 + d.below(12), Kind: 1 + d.below(6), Key: d.key(), Value: d.key(), Old: d.key(), Had: d.below(2) == 0, At: d.stamp(), Limit: 1 + d.below(topPage)}
	if d.below(6) > 0 && len(s.Entries) > 0 {
		x.r.Key = s.Entries[d.below(len(s.Entries))].Key
	}
	if value, found := valueIn(s.Entries, x.r.Key, c.Top); d.below(3) > 0 {
		x.r.Had, x.r.Old = found, value
	}
	if d.below(2) == 0 {
		x.r.Hi = d.key()
	}
	if x.r.Kind == api.Page && d.below(4) == 0 {
		x.r.Key = ""
	}
	if d.below(40) == 0 {
		l := badRequests(x.r)
		x.r = l[d.below(len(l))]
	}
	return x
}

func TestMixedRequestsByDefinition(t *testing.T) {
	for n := range 400 {
		d := dice(n)
		c := d.cell()
		for i := range c.Shards {
			if d.below(3) > 0 {
				c.Shards[i].Phase, c.Shards[i].Hold = serving, 0
			}
		}
		for range 60 {
			x := d.request(c)
			wantDoByDefinition(t, c, x)
			c, _ = x.run(c)
			if !engine.Right(c) {
				t.Fatalf("%s has made %s, which is not valid", x, brief(c))
			}
		}
	}
}

// The same call has the same answer each time.
func TestTheSameCallTwice(t *testing.T) {
	for _, x := range eachOfTwo() {
		c := several()
		first, a := x.run(c)
		kept, keptA := cloned(first), a
		second, b := x.run(c)
		if !same(first, kept) || !same(second, kept) || !sameAnswer(b, keptA) {
			t.Errorf("%s answers %s, then %s", x, brief(a), brief(b))
		}
	}
	for _, x := range slices.Concat(effective(), idle()) {
		c := several()
		first, ok := x.run(c)
		kept := cloned(first)
		second, again := x.run(c)
		if !same(first, kept) || !same(second, kept) || ok != again {
			t.Errorf("%s is %s, then %s", x, brief(first), brief(second))
		}
	}
}
