package dedup_test

import (
	"cmp"
	"fmt"
	"maps"
	"math"
	"slices"
	"strings"
	"testing"

	"stratigraph/api"
	"stratigraph/dedup"
)

// The greatest numbers that are allowed, written out.
const (
	topNum   = 1099511627776
	topTick  = 1048576
	topNode  = 255
	topErr   = 16
	topValue = 16
	topRows  = 8
)

// badNumbers are no Clients and no Reqs: those below what is allowed, and those above, some of which would be allowed in 32 or 40 bits.
var (
	lowNumbers  = []int{math.MinInt, math.MinInt + 1, -topNum, -1 << 32, -2, -1, 0}
	highNumbers = []int{topNum + 1, topNum + 2, 2 * topNum, 1<<62 + 1, math.MaxInt - 1, math.MaxInt}
	badNumbers  = slices.Concat(lowNumbers, highNumbers)
)

// row is a row with an answer that tells it from those of other clients and requests.
func row(client, req int) api.Done {
	return answered(client, req, fmt.Sprintf("%d/%d", client%100000, req%1000))
}

// answered is a row that another answer of the same request is told from by its value. The answer is plain, whatever the request is.
func answered(client, req int, value string) api.Done {
	return api.Done{Client: client, Req: req, Answer: api.Answer{At: api.Stamp{Wall: req & (topNum - 1), Tick: 7, Node: 2}, Found: req%2 == 1, Value: value}}
}

// with is a row of client 20 with this answer.
func with(a api.Answer) api.Done {
	return api.Done{Client: 20, Req: 5, Answer: a}
}

// ofLength is a table of n rows, of the clients 10, 20 and so on, each with the request 5; there are clients before, between and behind them.
func ofLength(n int) []api.Done {
	var t []api.Done
	for i := range n {
		t = append(t, row(10*(i+1), 5))
	}
	return t
}

// tableOf is the table of these rows.
func tableOf(rows ...api.Done) []api.Done {
	return rows
}

func replaced(t []api.Done, i int, d api.Done) []api.Done {
	t = slices.Clone(t)
	t[i] = d
	return t
}

func inserted(t []api.Done, i int, d api.Done) []api.Done {
	return slices.Insert(slices.Clone(t), i, d)
}

// goodAnswers are plain ones, at the ends of what is allowed.
func goodAnswers() []api.Answer {
	l := []api.Answer{
		{}, {Found: true}, {Err: api.ErrClash, Found: true, Value: "x"}, {Err: api.ErrFull, Value: "y"},
		{At: api.Stamp{Wall: topNum}}, {At: api.Stamp{Tick: topTick}}, {At: api.Stamp{Node: topNode}}, {At: api.Stamp{Wall: topNum, Tick: topTick, Node: topNode}},
		{Items: []api.Item{}}, {Items: make([]api.Item, 0, 3)}, {Items: []api.Item{{Key: "a", Value: "x"}}[:0]},
	}
	for e := range api.Errno(topErr + 1) {
		l = append(l, api.Answer{Err: e}, api.Answer{Err: e, At: api.Stamp{Wall: 5}, Found: true, Value: "z"})
	}
	for _, value := range []string{"x", " ", "\x00", "\n", "\xff", strings.Repeat("a", topValue-1), strings.Repeat("a", topValue), strings.Repeat("\x00", topValue), strings.Repeat("\xff", topValue), strings.Repeat("\u00e9", topValue/2), strings.Repeat("\U0001f600", topValue/4)} {
		l = append(l, api.Answer{Value: value}, api.Answer{Value: value, Found: true})
	}
	return l
}

// badAnswers are not plain, most for one reason alone.
func badAnswers() []api.Answer {
	l := []api.Answer{
		{Items: []api.Item{{}}}, {Items: []api.Item{{Key: "a"}}}, {Items: []api.Item{{Value: "x"}}}, {Items: []api.Item{{Key: "a", Value: "x"}, {Key: "b", Value: "y"}}}, {Items: make([]api.Item, 9)},
		{Next: "a"}, {Next: " "}, {Next: "\x00"}, {Next: strings.Repeat("a", 100)},
		{More: true},
		{Items: []api.Item{{Key: "a", Value: "x"}}, Next: "b", More: true}, {Next: "b", More: true}, {Err: topErr + 1, More: true}, {Err: -1, Next: "b"},
	}
	for _, e := range []api.Errno{math.MinInt, -1 << 32, -256, -17, -16, -2, -1, topErr + 1, topErr + 2, 255, 256, 257, 1 << 32, 1<<32 + 1, math.MaxInt} {
		l = append(l, api.Answer{Err: e}, api.Answer{Err: e, At: api.Stamp{Wall: 5}, Found: true, Value: "z"})
	}
	for _, n := range []int{math.MinInt, -1 << 32, -1, topNum + 1, math.MaxInt} {
		l = append(l, api.Answer{At: api.Stamp{Wall: n}}, api.Answer{At: api.Stamp{Tick: n}}, api.Answer{At: api.Stamp{Node: n}})
		l = append(l, api.Answer{At: api.Stamp{Wall: n, Tick: n, Node: n}, Found: true})
	}
	for _, s := range []api.Stamp{{Tick: topTick + 1}, {Tick: topNum}, {Node: topNode + 1}, {Node: topTick}, {Wall: 5, Tick: topTick + 1, Node: 2}, {Wall: 5, Tick: 7, Node: topNode + 1}, {Wall: topNum, Tick: topTick, Node: topNode + 1}} {
		l = append(l, api.Answer{At: s}, api.Answer{At: s, Found: true, Value: "x"})
	}
	for _, value := range []string{strings.Repeat("a", topValue+1), strings.Repeat("\x00", topValue+1), strings.Repeat("\xff", topValue+1), strings.Repeat("\u00e9", topValue/2) + "a", strings.Repeat("\u00e9", topValue/2+1), strings.Repeat("a", 1<<12)} {
		l = append(l, api.Answer{Value: value}, api.Answer{Value: value, Found: true})
	}
	return l
}

// badRows are rows that no table may have: of client 20 and request 5, but for the number that is wrong.
func badRows() []api.Done {
	l := []api.Done{{}, {Client: -1, Req: -1}, {Client: topNum + 1, Req: topNum + 1, Answer: api.Answer{More: true}}}
	for _, n := range badNumbers {
		l = append(l, row(20, n), api.Done{Client: 20, Req: n}, row(n, 5), api.Done{Client: n, Req: 5})
	}
	for _, a := range badAnswers() {
		l = append(l, with(a))
	}
	return l
}

// withOneWrongRow are tables of n rows with a wrong one, each at the front, in the middle and at the end.
func withOneWrongRow(n int) [][]api.Done {
	var l [][]api.Done
	full := ofLength(n)
	for _, i := range slices.Compact([]int{0, n / 2, n - 1}) {
		d := full[i]
		for _, bad := range badNumbers {
			l = append(l, replaced(full, i, api.Done{Client: bad, Req: d.Req, Answer: d.Answer}))
			l = append(l, replaced(full, i, api.Done{Client: d.Client, Req: bad, Answer: d.Answer}))
		}
		for _, bad := range badAnswers() {
			l = append(l, replaced(full, i, api.Done{Client: d.Client, Req: d.Req, Answer: bad}))
		}
	}
	// Where a Client that is too small or too great keeps the rows in order.
	for _, bad := range lowNumbers {
		l = append(l, replaced(full, 0, row(bad, 5)))
	}
	for _, bad := range highNumbers {
		l = append(l, replaced(full, n-1, row(bad, 5)))
	}
	return l
}

// notRising are tables of n rows, more than one, of which each is right, but whose Clients are equal or fall: at the front, in the middle, at the end.
func notRising(n int) [][]api.Done {
	var l [][]api.Done
	full := ofLength(n)
	for i := range n - 1 {
		a, b := full[i], full[i+1]
		l = append(l, replaced(full, i+1, a), replaced(full, i, b), replaced(full, i+1, row(a.Client, 9)), replaced(full, i, row(b.Client, 1)))
		l = append(l, replaced(replaced(full, i, b), i+1, a), replaced(full, i+1, row(a.Client-1, 5)), replaced(full, i, row(b.Client+1, 5)))
	}
	backwards := slices.Clone(full)
	slices.Reverse(backwards)
	return append(l, backwards, replaced(full, 0, row(full[n-1].Client, 5)), replaced(full, n-1, row(1, 5)), replaced(full, 0, row(topNum, 5)))
}

// badTables are tables that are not valid, each for one reason or for several.
func badTables() [][]api.Done {
	l := [][]api.Done{ofLength(topRows + 1), ofLength(topRows + 2), ofLength(100)}
	for _, n := range []int{1, 2, 3, topRows} {
		l = append(l, withOneWrongRow(n)...)
	}
	for _, n := range []int{2, 3, 5, topRows, topRows + 1} {
		l = append(l, notRising(n)...)
	}
	for _, d := range badRows() {
		l = append(l, tableOf(d))
	}
	return append(l, withOneWrongRow(topRows + 1)[0], make([]api.Done, 1), make([]api.Done, 3), make([]api.Done, 9))
}

// What the chapter defines, in its words.

func fromOne(n int) bool {
	return n >= 1 && n <= topNum
}

func validStamp(s api.Stamp) bool {
	return s.Wall >= 0 && s.Wall <= topNum && s.Tick >= 0 && s.Tick <= topTick && s.Node >= 0 && s.Node <= topNode
}

func plain(a api.Answer) bool {
	switch {
	case a.Err < 0, a.Err > topErr, !validStamp(a.At), len(a.Value) > topValue:
		return false
	case len(a.Items) > 0, a.Next != "", a.More:
		return false
	}
	return true
}

func valid(t []api.Done) bool {
	if len(t) > topRows {
		return false
	}
	for i, d := range t {
		if !fromOne(d.Client) || !fromOne(d.Req) || !plain(d.Answer) {
			return false
		}
		for _, earlier := range t[:i] {
			if earlier.Client >= d.Client {
				return false
			}
		}
	}
	return true
}

func rowIn(t []api.Done, client int) (api.Done, bool) {
	for _, d := range t {
		if d.Client == client && valid(t) {
			return d, true
		}
	}
	return api.Done{}, false
}

func judged(t []api.Done, client, req int) int {
	if !valid(t) || !fromOne(client) || !fromOne(req) {
		return 0
	}
	d, there := rowIn(t, client)
	if !there || req > d.Req {
		return 1
	}
	if req == d.Req {
		return 2
	}
	return 3
}

func byClient(rows map[int]api.Done) []api.Done {
	return slices.SortedFunc(maps.Values(rows), func(a, b api.Done) int { return cmp.Compare(a.Client, b.Client) })
}

func putIn(t []api.Done, d api.Done) ([]api.Done, api.Errno) {
	if !valid(t) || !valid([]api.Done{d}) {
		return nil, api.ErrArg
	}
	last, there := rowIn(t, d.Client)
	if there && !(last.Req < d.Req) {
		return nil, api.ErrRange
	}
	if !there && len(t) == topRows {
		return nil, api.ErrFull
	}
	rows := map[int]api.Done{d.Client: d}
	for _, other := range t {
		if other.Client != d.Client {
			rows[other.Client] = other
		}
	}
	return byClient(rows), api.OK
}

func mergedOf(a, b []api.Done) ([]api.Done, api.Errno) {
	if !valid(a) || !valid(b) {
		return nil, api.ErrArg
	}
	rows := map[int]api.Done{}
	for _, d := range b {
		rows[d.Client] = d
	}
	for _, d := range a {
		if other, there := rows[d.Client]; !there || d.Req >= other.Req {
			rows[d.Client] = d
		}
	}
	if len(rows) > topRows {
		return nil, api.ErrFull
	}
	return byClient(rows), api.OK
}

// sameRow takes nil and empty Items as the same.
func sameRow(a, b api.Done) bool {
	x, y := a.Answer, b.Answer
	return a.Client == b.Client && a.Req == b.Req && x.Err == y.Err && x.At == y.At && x.Found == y.Found &&
		x.Value == y.Value && x.Next == y.Next && x.More == y.More && slices.Equal(x.Items, y.Items)
}

func same(a, b []api.Done) bool {
	return slices.EqualFunc(a, b, sameRow)
}

// brief is a table in few enough letters to be read.
func brief(t []api.Done) string {
	return fmt.Sprintf("%d rows %.300q", len(t), fmt.Sprint(t))
}

// lent is a table with what lies beside it and behind its end, as a caller may hold it; there is room behind the Items of its answers, too, where they are not nil.
type lent struct {
	all, before, t []api.Done
	items          [][]api.Item
}

var others = [2]api.Item{{Key: "o", Value: "other"}, {Key: "p", Value: "third"}}

func lend(t []api.Done) lent {
	var l lent
	l.all = slices.Concat([]api.Done{row(3, 3)}, t, []api.Done{row(15, 8), row(4, 4), {}})
	l.t = l.all[1 : 1+len(t)]
	for i := range l.t {
		a := &l.t[i].Answer
		if a.Items == nil {
			continue
		}
		items := slices.Concat(a.Items, others[:])
		l.items = append(l.items, items)
		a.Items = items[:len(a.Items)]
	}
	l.before = slices.Clone(l.all)
	for i := range l.before {
		l.before[i].Answer.Items = slices.Clone(l.before[i].Answer.Items)
	}
	return l
}

// wantKept asks that the caller's memory is as it was.
func (l lent) wantKept(t *testing.T, call string) {
	t.Helper()
	if !same(l.all, l.before) {
		t.Errorf("%s has changed %s to %s", call, brief(l.before), brief(l.all))
	}
	for _, items := range l.items {
		if !slices.Equal(items[len(items)-2:], others[:]) {
			t.Errorf("%s has written behind the Items of %s", call, brief(l.before))
		}
	}
}

// What is wanted of each call.

func wantRight(t *testing.T, tab []api.Done, want bool) {
	t.Helper()
	l := lend(tab)
	if dedup.Right(l.t) != want {
		t.Errorf("Right(%s) = %v", brief(tab), !want)
	}
	l.wantKept(t, "Right")
}

func wantTold(t *testing.T, tab []api.Done, client int, want api.Done, wantOk bool) {
	t.Helper()
	l := lend(tab)
	if d, ok := dedup.Told(l.t, client); !sameRow(d, want) || ok != wantOk {
		t.Errorf("Told(%s, %d) = %s, %v, want %s, %v", brief(tab), client, brief(tableOf(d)), ok, brief(tableOf(want)), wantOk)
	}
	l.wantKept(t, "Told")
}

func wantNotTold(t *testing.T, tab []api.Done, client int) {
	t.Helper()
	wantTold(t, tab, client, api.Done{}, false)
}

func wantJudge(t *testing.T, tab []api.Done, client, req, want int) {
	t.Helper()
	l := lend(tab)
	if got := dedup.Judge(l.t, client, req); got != want {
		t.Errorf("Judge(%s, %d, %d) = %d, want %d", brief(tab), client, req, got, want)
	}
	l.wantKept(t, "Judge")
}

func wantPut(t *testing.T, tab []api.Done, d api.Done, want []api.Done, wantErr api.Errno) {
	t.Helper()
	l, one := lend(tab), lend(tableOf(d))
	if got, err := dedup.Put(l.t, one.t[0]); !same(got, want) || err != wantErr {
		t.Errorf("Put(%s, %s) = %s, %d, want %s, %d", brief(tab), brief(tableOf(d)), brief(got), err, brief(want), wantErr)
	}
	l.wantKept(t, "Put")
	one.wantKept(t, "Put")
}

func wantNoPut(t *testing.T, tab []api.Done, d api.Done, wantErr api.Errno) {
	t.Helper()
	wantPut(t, tab, d, nil, wantErr)
}

func wantMerge(t *testing.T, a, b, want []api.Done, wantErr api.Errno) {
	t.Helper()
	l, m := lend(a), lend(b)
	if got, err := dedup.Merge(l.t, m.t); !same(got, want) || err != wantErr {
		t.Errorf("Merge(%s, %s) = %s, %d, want %s, %d", brief(a), brief(b), brief(got), err, brief(want), wantErr)
	}
	l.wantKept(t, "Merge")
	m.wantKept(t, "Merge")
}

func wantNoMerge(t *testing.T, a, b []api.Done, wantErr api.Errno) {
	t.Helper()
	wantMerge(t, a, b, nil, wantErr)
}

// P10.1: Right

func TestRightAtEachLength(t *testing.T) {
	wantRight(t, nil, true)
	wantRight(t, []api.Done{}, true)
	for n := range 20 {
		wantRight(t, ofLength(n), n <= topRows)
	}
	// Nor does it help that the ninth row is the same as another one.
	wantRight(t, append(ofLength(topRows), ofLength(topRows)[7]), false)
}

func TestRightOfClientsAndReqsAtEachEnd(t *testing.T) {
	for _, n := range []int{1, 2, 3, 1 << 31, 1 << 32, topNum - 1, topNum} {
		wantRight(t, tableOf(row(n, 5)), true)
		wantRight(t, tableOf(row(5, n)), true)
		wantRight(t, tableOf(row(n, n)), true)
	}
	for _, n := range badNumbers {
		wantRight(t, tableOf(row(n, 5)), false)
		wantRight(t, tableOf(row(5, n)), false)
		wantRight(t, tableOf(row(n, n)), false)
		wantRight(t, tableOf(api.Done{Client: n, Req: 1}), false)
		wantRight(t, tableOf(api.Done{Client: 1, Req: n}), false)
	}
	wantRight(t, tableOf(row(1, topNum), row(2, 1), row(topNum-1, topNum), row(topNum, 1)), true)
	wantRight(t, tableOf(row(1, 9), row(2, 5), row(3, 1)), true)
	wantRight(t, tableOf(row(1, 5), row(2, 5), row(3, 5)), true)
	wantRight(t, tableOf(row(0, 1), row(1, 1)), false)
	wantRight(t, tableOf(row(topNum, 1), row(topNum+1, 1)), false)
}

func TestRightOfEachAnswer(t *testing.T) {
	for _, n := range []int{1, 2, 5, topRows} {
		for i := range n {
			for _, a := range goodAnswers() {
				d := ofLength(n)[i]
				wantRight(t, replaced(ofLength(n), i, api.Done{Client: d.Client, Req: d.Req, Answer: a}), true)
			}
			for _, a := range badAnswers() {
				d := ofLength(n)[i]
				wantRight(t, replaced(ofLength(n), i, api.Done{Client: d.Client, Req: d.Req, Answer: a}), false)
			}
		}
	}
}

func TestRightOfClientsThatDoNotRise(t *testing.T) {
	for n := 2; n <= topRows; n++ {
		for _, tab := range notRising(n) {
			wantRight(t, tab, false)
		}
	}
	for _, l := range [][]int{{1, 1}, {2, 1}, {1, 2, 2}, {1, 1, 2}, {1, 3, 2}, {2, 1, 3}, {2, 3, 1}, {3, 2, 1}, {1, 2, 1}, {1, 2, 3, 4, 5, 6, 8, 7}, {2, 1, 3, 4, 5, 6, 7, 8}, {topNum, 1}, {topNum, topNum}} {
		var tab []api.Done
		for _, client := range l {
			tab = append(tab, row(client, 5))
		}
		wantRight(t, tab, false)
		for i := range tab {
			tab[i].Req = i + 1
		}
		wantRight(t, tab, false)
		slices.SortFunc(tab, func(a, b api.Done) int { return cmp.Compare(a.Client, b.Client) })
		tab = slices.CompactFunc(tab, func(a, b api.Done) bool { return a.Client == b.Client })
		wantRight(t, tab, true)
	}
}

func TestTablesThatAreNotValid(t *testing.T) {
	for _, tab := range badTables() {
		if valid(tab) {
			t.Fatalf("%s is valid", brief(tab))
		}
		wantRight(t, tab, false)
		clients := []int{0, 1, 10, 15, 20, 80, 85, 90, topNum, topNum + 1, -1}
		for _, d := range tab[:min(len(tab), 9)] {
			clients = append(clients, d.Client)
		}
		for _, client := range clients {
			wantNotTold(t, tab, client)
			wantJudge(t, tab, client, 1, 0)
			wantJudge(t, tab, client, 5, 0)
			wantJudge(t, tab, client, topNum, 0)
			wantNoPut(t, tab, row(client, 9), api.ErrArg)
			wantNoPut(t, tab, row(client, 5), api.ErrArg)
		}
		for _, other := range [][]api.Done{nil, tableOf(row(20, 5)), ofLength(topRows), tab} {
			wantNoMerge(t, tab, other, api.ErrArg)
			wantNoMerge(t, other, tab, api.ErrArg)
		}
	}
}

// P10.1: Told

func TestToldOfEachClient(t *testing.T) {
	for n := range topRows + 1 {
		tab := ofLength(n)
		for client := range 10*topRows + 20 {
			if client > 0 && client%10 == 0 && client <= 10*n {
				wantTold(t, tab, client, row(client, 5), true)
			} else {
				wantNotTold(t, tab, client)
			}
		}
		for _, client := range badNumbers {
			wantNotTold(t, tab, client)
		}
		wantNotTold(t, tab, topNum)
	}
	ends := tableOf(row(1, topNum), row(topNum, 1))
	wantTold(t, ends, 1, row(1, topNum), true)
	wantTold(t, ends, topNum, row(topNum, 1), true)
	for _, client := range []int{2, topNum - 1, 1<<32 + 1} {
		wantNotTold(t, ends, client)
	}
}

func TestToldHasTheWholeAnswer(t *testing.T) {
	for _, a := range goodAnswers() {
		wantTold(t, tableOf(row(10, 5), with(a), row(30, 5)), 20, with(a), true)
		wantTold(t, tableOf(with(a)), 20, with(a), true)
	}
}

// P10.1: Judge

func TestTheJudgements(t *testing.T) {
	if l := [3]int{dedup.New, dedup.Same, dedup.Old}; l != [3]int{1, 2, 3} {
		t.Errorf("New, Same and Old are %v", l)
	}
}

func TestJudgeOfTheChapter(t *testing.T) {
	for _, tab := range [][]api.Done{{{Client: 3, Req: 5}}, {row(3, 5)}, {row(1, 9), row(3, 5), row(7, 1)}} {
		wantJudge(t, tab, 3, 6, 1)
		wantJudge(t, tab, 3, 5, 2)
		wantJudge(t, tab, 3, 4, 3)
		wantJudge(t, tab, 4, 1, 1)
	}
}

func TestJudgeOfClientsWithoutARow(t *testing.T) {
	for n := range topRows + 1 {
		tab := ofLength(n)
		for _, client := range []int{1, 9, 11, 15, 19, 21, 10*n - 1, 10*n + 1, 10*n + 10, topNum - 1, topNum} {
			for _, req := range []int{1, 2, 4, 5, 6, topNum - 1, topNum} {
				if fromOne(client) {
					wantJudge(t, tab, client, req, 1)
				}
			}
		}
	}
}

func TestJudgeOfClientsWithARow(t *testing.T) {
	for _, n := range []int{1, 2, 5, topRows} {
		for i := range n {
			client := 10 * (i + 1)
			for _, last := range []int{1, 2, 5, 1 << 32, topNum - 1, topNum} {
				tab := replaced(ofLength(n), i, row(client, last))
				for _, req := range []int{1, 2, 3, 4, 5, 6, last - 1, last, last + 1, 1 << 31, 1<<32 - 1, 1<<32 + 5, topNum - 1, topNum} {
					switch {
					case req < 1 || req > topNum:
						wantJudge(t, tab, client, req, 0)
					case req > last:
						wantJudge(t, tab, client, req, 1)
					case req == last:
						wantJudge(t, tab, client, req, 2)
					default:
						wantJudge(t, tab, client, req, 3)
					}
				}
			}
		}
	}
}

func TestJudgeOfWhatIsNoClientOrRequest(t *testing.T) {
	for _, tab := range [][]api.Done{nil, tableOf(row(1, 1)), tableOf(row(1, topNum), row(topNum, topNum)), tableOf(row(3, 5)), ofLength(topRows)} {
		clients := []int{1, 2, 3, 10, topNum}
		for _, bad := range badNumbers {
			for _, n := range clients {
				wantJudge(t, tab, bad, n, 0)
				wantJudge(t, tab, n, bad, 0)
			}
			for _, other := range badNumbers {
				wantJudge(t, tab, bad, other, 0)
			}
		}
	}
}

// What is told is only whether the request is the last one, not how it was answered.
func TestJudgeOfEachAnswer(t *testing.T) {
	for _, a := range goodAnswers() {
		tab := tableOf(row(10, 9), with(a), row(30, 1))
		wantJudge(t, tab, 20, 4, 3)
		wantJudge(t, tab, 20, 5, 2)
		wantJudge(t, tab, 20, 6, 1)
	}
}

// P10.2: Put

func TestPutOfTheFirstRow(t *testing.T) {
	for _, d := range []api.Done{row(1, 1), row(1, topNum), row(topNum, 1), row(topNum, topNum), row(20, 5), {Client: 20, Req: 5}} {
		wantPut(t, nil, d, tableOf(d), api.OK)
		wantPut(t, []api.Done{}, d, tableOf(d), api.OK)
	}
	for _, d := range badRows() {
		wantNoPut(t, nil, d, api.ErrArg)
	}
}

func TestPutBeforeBetweenAndBehind(t *testing.T) {
	for n := range topRows {
		tab := ofLength(n)
		for i := range n + 1 {
			for _, client := range []int{10*i + 1, 10*i + 5, 10*i + 9} {
				for _, req := range []int{1, 4, 5, 6, topNum} {
					wantPut(t, tab, row(client, req), inserted(tab, i, row(client, req)), api.OK)
				}
			}
		}
		wantPut(t, tab, row(topNum, 1), inserted(tab, n, row(topNum, 1)), api.OK)
	}
	wantPut(t, tableOf(row(topNum, 5)), row(topNum-1, 1), tableOf(row(topNum-1, 1), row(topNum, 5)), api.OK)
	wantPut(t, tableOf(row(2, 5)), row(1, 1), tableOf(row(1, 1), row(2, 5)), api.OK)
}

func TestPutInThePlaceOfAnotherRow(t *testing.T) {
	for n := 1; n <= topRows; n++ {
		for i := range n {
			client := 10 * (i + 1)
			for _, last := range []int{1, 5, 1 << 32, topNum - 1, topNum} {
				tab := replaced(ofLength(n), i, row(client, last))
				for _, req := range []int{1, 2, 4, 5, 6, last - 1, last, last + 1, 1<<32 + 1, topNum} {
					d := answered(client, req, "another")
					switch {
					case req < 1 || req > topNum:
						wantNoPut(t, tab, d, api.ErrArg)
					case req <= last:
						wantNoPut(t, tab, d, api.ErrRange)
					default:
						wantPut(t, tab, d, replaced(tab, i, d), api.OK)
					}
				}
			}
		}
	}
}

// A row that is refused is refused even if it is the very row that is there.
func TestPutOfTheSameRow(t *testing.T) {
	for n := 1; n <= topRows; n++ {
		for _, d := range ofLength(n) {
			wantNoPut(t, ofLength(n), d, api.ErrRange)
		}
	}
}

// What is put is the row's whole answer, and nothing of the one before; the other rows keep theirs.
func TestPutOfEachAnswer(t *testing.T) {
	for _, a := range goodAnswers() {
		wantPut(t, nil, with(a), tableOf(with(a)), api.OK)
		tab := tableOf(row(10, 5), row(30, 5))
		wantPut(t, tab, with(a), inserted(tab, 1, with(a)), api.OK)
		for _, last := range goodAnswers() {
			earlier := api.Done{Client: 20, Req: 4, Answer: last}
			wantPut(t, tableOf(earlier), with(a), tableOf(with(a)), api.OK)
			wantPut(t, inserted(tab, 1, earlier), row(30, 6), tableOf(row(10, 5), earlier, row(30, 6)), api.OK)
		}
	}
}

func TestPutToFullTables(t *testing.T) {
	full := ofLength(topRows)
	for i, last := range full {
		wantPut(t, full, row(last.Client, 6), replaced(full, i, row(last.Client, 6)), api.OK)
		wantNoPut(t, full, row(last.Client, 5), api.ErrRange)
		wantNoPut(t, full, row(last.Client, 4), api.ErrRange)
		for _, req := range []int{1, 5, 6, topNum} {
			wantNoPut(t, full, row(last.Client-1, req), api.ErrFull)
			wantNoPut(t, full, row(last.Client+1, req), api.ErrFull)
			wantNoPut(t, full, row(topNum, req), api.ErrFull)
			wantNoPut(t, full, row(1, req), api.ErrFull)
		}
		without := slices.Delete(slices.Clone(full), i, i+1)
		wantPut(t, without, last, full, api.OK)
	}
}

func TestPutOfRowsThatNoTableMayHave(t *testing.T) {
	for _, d := range badRows() {
		for n := range topRows + 1 {
			wantNoPut(t, ofLength(n), d, api.ErrArg)
		}
	}
}

// Of several wrong things, the first that the chapter names is told.
func TestTheOrderOfPutsErrors(t *testing.T) {
	full := ofLength(topRows)
	for _, a := range badAnswers() {
		for _, client := range []int{1, 15, 20, 80, 85, topNum} {
			for _, req := range []int{1, 5, 6, 0, topNum + 1} {
				d := api.Done{Client: client, Req: req, Answer: a}
				wantNoPut(t, full, d, api.ErrArg)
				wantNoPut(t, full[:1], d, api.ErrArg)
			}
		}
	}
	for _, bad := range badNumbers {
		// With a Req that is less than the client's, and for a client that has no place.
		wantNoPut(t, full, row(20, bad), api.ErrArg)
		wantNoPut(t, full, row(25, bad), api.ErrArg)
		wantNoPut(t, full, row(bad, 4), api.ErrArg)
		wantNoPut(t, full, row(bad, bad), api.ErrArg)
	}
	for _, tab := range slices.Concat(notRising(topRows), withOneWrongRow(topRows), [][]api.Done{ofLength(topRows + 1)}) {
		for _, d := range []api.Done{row(10, 4), row(20, 5), row(20, 6), row(80, 1), row(85, 9), row(90, 4), row(1, 1), {}, row(0, 4), row(20, 0), with(api.Answer{More: true})} {
			wantNoPut(t, tab, d, api.ErrArg)
		}
	}
	// A client with a row needs no place, so that a full table does not refuse it as full.
	for _, d := range full {
		wantNoPut(t, full, row(d.Client, 1), api.ErrRange)
	}
}

// P10.2: Merge

func TestMergeOfNoRows(t *testing.T) {
	wantMerge(t, nil, nil, nil, api.OK)
	wantMerge(t, []api.Done{}, nil, nil, api.OK)
	wantMerge(t, nil, []api.Done{}, nil, api.OK)
	for n := 1; n <= topRows; n++ {
		wantMerge(t, ofLength(n), nil, ofLength(n), api.OK)
		wantMerge(t, nil, ofLength(n), ofLength(n), api.OK)
		wantMerge(t, ofLength(n), []api.Done{}, ofLength(n), api.OK)
		wantMerge(t, []api.Done{}, ofLength(n), ofLength(n), api.OK)
	}
}

func TestMergeOfATableWithItself(t *testing.T) {
	for n := range topRows + 1 {
		tab := ofLength(n)
		wantMerge(t, tab, tab, tab, api.OK)
		l := lend(tab)
		if got, err := dedup.Merge(l.t, l.t); !same(got, tab) || err != api.OK {
			t.Errorf("Merge(%s) with itself = %s, %d", brief(tab), brief(got), err)
		}
		l.wantKept(t, "Merge")
	}
}

func TestMergeWithoutAClientInCommon(t *testing.T) {
	for n := range topRows + 1 {
		all := ofLength(n)
		// Which of both each row is in: those of one before those of the other, in turn, and any other way.
		for choice := range 1 << n {
			var a, b []api.Done
			for i, d := range all {
				if choice>>i&1 == 0 {
					a = append(a, d)
				} else {
					b = append(b, d)
				}
			}
			wantMerge(t, a, b, all, api.OK)
		}
	}
}

func TestMergeWithAllClientsInCommon(t *testing.T) {
	for n := range topRows + 1 {
		// Of each client, the one, the other or none has the greater Req.
		for choice := range power(3, min(n, 5)) {
			var a, b, want []api.Done
			for i := range n {
				client := 10 * (i + 1)
				digit := choice / power(3, min(i, 4)) % 3
				x, y := answered(client, 5, "a's"), answered(client, 4+digit, "b's")
				a, b = append(a, x), append(b, y)
				want = append(want, [3]api.Done{x, x, y}[digit])
			}
			wantMerge(t, a, b, want, api.OK)
		}
	}
}

func power(base, n int) int {
	p := 1
	for range n {
		p *= base
	}
	return p
}

// For the same Req, the answer is that of the first table, each way round.
func TestMergeOfDifferentAnswers(t *testing.T) {
	l := goodAnswers()
	for _, x := range l {
		for _, y := range l {
			wantMerge(t, tableOf(with(x)), tableOf(with(y)), tableOf(with(x)), api.OK)
		}
		first, second := tableOf(row(10, 1), with(x), row(40, 7)), tableOf(answered(20, 5, "other"), row(30, 1), answered(40, 7, "other"))
		wantMerge(t, first, second, tableOf(row(10, 1), with(x), row(30, 1), row(40, 7)), api.OK)
		wantMerge(t, second, first, tableOf(row(10, 1), second[0], row(30, 1), second[2]), api.OK)
	}
}

func TestMergeOfReqsAtEachEnd(t *testing.T) {
	l := []int{1, 2, 5, 1 << 31, 1 << 32, 1<<32 + 1, topNum - 1, topNum}
	for _, client := range []int{1, 20, topNum} {
		for i, p := range l {
			for j, q := range l {
				x, y := answered(client, p, "first"), answered(client, q, "second")
				want := x
				if j > i {
					want = y
				}
				wantMerge(t, tableOf(x), tableOf(y), tableOf(want), api.OK)
			}
		}
	}
}

// Of 8 and of 9 clients, each has a row in the one, in the other, or in both.
func TestMergeOfEightAndOfNineClients(t *testing.T) {
	for _, n := range []int{topRows, topRows + 1} {
		for choice := range power(3, n) {
			var a, b, want []api.Done
			for i := range n {
				x, y := answered(10*(i+1), 5+i%2, "a's"), answered(10*(i+1), 6, "b's")
				switch choice / power(3, i) % 3 {
				case 0:
					a, want = append(a, x), append(want, x)
				case 1:
					b, want = append(b, y), append(want, y)
				default:
					a, b = append(a, x), append(b, y)
					want = append(want, [2]api.Done{y, x}[i%2])
				}
			}
			switch {
			case len(a) > topRows || len(b) > topRows:
				wantNoMerge(t, a, b, api.ErrArg)
			case n > topRows:
				wantNoMerge(t, a, b, api.ErrFull)
			default:
				wantMerge(t, a, b, want, api.OK)
			}
		}
	}
}

func TestMergeOfTooManyClients(t *testing.T) {
	for n := 1; n <= topRows; n++ {
		for m := topRows + 1 - n; m <= topRows; m++ {
			a := ofLength(n)
			before, behind := make([]api.Done, 0, m), make([]api.Done, 0, m)
			for i := range m {
				before, behind = append(before, row(i+1, 9)), append(behind, row(1000+i, 9))
			}
			for _, b := range [][]api.Done{before, behind} {
				wantNoMerge(t, a, b, api.ErrFull)
				wantNoMerge(t, b, a, api.ErrFull)
			}
			// One client less, because it is in both.
			shared := append(slices.Clone(behind[:topRows-n]), row(topNum, 1))
			wantMerge(t, append(slices.Clone(a[:n-1]), row(topNum, 2)), shared, slices.Concat(a[:n-1], shared[:topRows-n], tableOf(row(topNum, 2))), api.OK)
		}
	}
}

func TestTheOrderOfMergesErrors(t *testing.T) {
	far := make([]api.Done, 0, topRows)
	for i := range topRows {
		far = append(far, row(1000+i, 9))
	}
	wantNoMerge(t, ofLength(topRows), far, api.ErrFull)
	for _, bad := range slices.Concat(withOneWrongRow(topRows), notRising(topRows), [][]api.Done{ofLength(topRows + 1), ofLength(100)}) {
		wantNoMerge(t, bad, far, api.ErrArg)
		wantNoMerge(t, far, bad, api.ErrArg)
		wantNoMerge(t, bad, bad, api.ErrArg)
		wantNoMerge(t, bad, ofLength(topRows+1), api.ErrArg)
	}
	// A row that would not come into the result, since the other table has a later one, makes its table not valid all the same.
	for _, a := range badAnswers() {
		wantNoMerge(t, tableOf(with(a)), tableOf(row(20, 6)), api.ErrArg)
		wantNoMerge(t, tableOf(row(20, 6)), tableOf(with(a)), api.ErrArg)
	}
	for _, bad := range lowNumbers {
		wantNoMerge(t, tableOf(row(20, bad)), tableOf(row(20, 6)), api.ErrArg)
		wantNoMerge(t, tableOf(row(20, 6)), tableOf(row(20, bad)), api.ErrArg)
	}
}

// P10.1, P10.2

func wantAllByDefinition(t *testing.T, tab, rows []api.Done) {
	t.Helper()
	wantRight(t, tab, valid(tab))
	for client := range 6 {
		d, ok := rowIn(tab, client)
		wantTold(t, tab, client, d, ok)
		for req := range 5 {
			wantJudge(t, tab, client, req, judged(tab, client, req))
		}
	}
	for _, d := range rows {
		want, err := putIn(tab, d)
		wantPut(t, tab, d, want, err)
	}
}

// someRows are the rows of which all short tables are made.
func someRows() []api.Done {
	l := []api.Done{row(0, 1), row(2, 0), {Client: 3, Req: 2, Answer: api.Answer{More: true}}, row(topNum+1, 1)}
	for client := 1; client <= 3; client++ {
		l = append(l, row(client, 1), answered(client, 2, "x"), answered(client, 2, "y"), row(client, 3))
	}
	return l
}

// tablesUpTo are all tables of at most n of these rows.
func tablesUpTo(n int, rows []api.Done) [][]api.Done {
	l := [][]api.Done{nil}
	last := l
	for range n {
		var longer [][]api.Done
		for _, tab := range last {
			for _, d := range rows {
				longer = append(longer, inserted(tab, len(tab), d))
			}
		}
		l, last = append(l, longer...), longer
	}
	return l
}

func TestShortTablesByDefinition(t *testing.T) {
	rows := someRows()
	for _, tab := range tablesUpTo(3, rows) {
		wantAllByDefinition(t, tab, rows)
	}
}

func TestMergesOfShortTablesByDefinition(t *testing.T) {
	short := tablesUpTo(2, someRows())
	for _, tab := range tablesUpTo(3, someRows()) {
		if len(tab) == 3 && valid(tab) {
			short = append(short, tab)
		}
	}
	for _, a := range short {
		for _, b := range short {
			want, err := mergedOf(a, b)
			wantMerge(t, a, b, want, err)
		}
	}
}

// dice throws the same numbers in each run.
type dice uint64

func (d *dice) below(n int) int {
	*d = *d*6364136223846793005 + 1442695040888963407
	return int(uint64(*d) >> 33 % uint64(n))
}

// row is a row of one of these clients with a plain answer.
func (d *dice) row(clients int) api.Done {
	l := goodAnswers()
	r := api.Done{Client: 1 + d.below(clients), Req: 1 + d.below(6), Answer: l[d.below(len(l))]}
	if d.below(9) == 0 {
		r.Client += topNum - clients
	}
	if d.below(9) == 0 {
		r.Req += topNum - 6
	}
	return r
}

// table is a valid one of at most n rows.
func (d *dice) table(n, clients int) []api.Done {
	rows := map[int]api.Done{}
	for range n {
		r := d.row(clients)
		rows[r.Client] = r
	}
	tab := byClient(rows)
	return tab[:min(len(tab), topRows)]
}

// wrong is the table with something wrong in it, most often.
func (d *dice) wrong(tab []api.Done) []api.Done {
	if len(tab) == 0 {
		return badTables()[d.below(20)]
	}
	i, j := d.below(len(tab)), d.below(len(tab))
	switch d.below(5) {
	case 0:
		return replaced(tab, i, tab[j])
	case 1:
		return replaced(replaced(tab, i, tab[j]), j, tab[i])
	case 2:
		return replaced(tab, i, badRows()[d.below(len(badRows()))])
	case 3:
		return inserted(tab, i, tab[j])
	}
	bad := tab[i]
	bad.Answer = badAnswers()[d.below(len(badAnswers()))]
	return replaced(tab, i, bad)
}

func TestMixedTablesByDefinition(t *testing.T) {
	d := dice(10)
	for range 4000 {
		a, b := d.table(d.below(10), 4+d.below(8)), d.table(d.below(10), 4+d.below(8))
		if d.below(4) == 0 {
			a = d.wrong(a)
		}
		if d.below(4) == 0 {
			b = d.wrong(b)
		}
		want, err := mergedOf(a, b)
		wantMerge(t, a, b, want, err)
		wantRight(t, a, valid(a))
		rows := append(slices.Clone(b), d.row(10))
		for _, r := range rows {
			want, err := putIn(a, r)
			wantPut(t, a, r, want, err)
			told, ok := rowIn(a, r.Client)
			wantTold(t, a, r.Client, told, ok)
			for _, req := range []int{r.Req - 1, r.Req, r.Req + 1} {
				wantJudge(t, a, r.Client, req, judged(a, r.Client, req))
			}
		}
	}
}

// P10.3

// history is a table and the rows that were recorded in it, or in those of which it was merged.
type history struct {
	t    []api.Done
	rows []api.Done
}

// wantRemembered asks that nothing that was recorded is New, that the last request of each client is told, and that later ones are New.
func (h history) wantRemembered(t *testing.T) {
	t.Helper()
	wantRight(t, h.t, true)
	last := map[int]int{}
	for _, d := range h.rows {
		last[d.Client] = max(last[d.Client], d.Req)
	}
	if len(last) != len(h.t) {
		t.Errorf("%d clients have rows, not %d, in %s", len(h.t), len(last), brief(h.t))
	}
	for _, d := range h.rows {
		want := dedup.Old
		if d.Req == last[d.Client] {
			want = dedup.Same
		}
		wantJudge(t, h.t, d.Client, d.Req, want)
		if last[d.Client] < topNum {
			wantJudge(t, h.t, d.Client, last[d.Client]+1, dedup.New)
		}
		if told, ok := dedup.Told(h.t, d.Client); !ok || told.Req != last[d.Client] {
			t.Errorf("Told(%s, %d) = %v, %v, want the request %d", brief(h.t), d.Client, told, ok, last[d.Client])
		}
	}
}

// put records d, if it may.
func (h history) put(t *testing.T, d api.Done) history {
	t.Helper()
	tab, err := dedup.Put(h.t, d)
	fresh := dedup.Judge(h.t, d.Client, d.Req) == dedup.New
	switch {
	case err == api.OK && fresh:
		return history{tab, inserted(h.rows, len(h.rows), d)}
	case err == api.ErrRange && !fresh, err == api.ErrFull && fresh && len(h.t) == topRows:
		return h
	}
	t.Errorf("Put(%s, %v): %d", brief(h.t), d, err)
	return h
}

// merge merges both, if they have not too many clients.
func (h history) merge(t *testing.T, other history) (history, bool) {
	t.Helper()
	tab, err := dedup.Merge(h.t, other.t)
	clients := map[int]int{}
	for _, d := range slices.Concat(h.t, other.t) {
		clients[d.Client]++
	}
	if full := len(clients) > topRows; full != (err == api.ErrFull) || !full && err != api.OK {
		t.Errorf("Merge(%s, %s): %d, with %d clients", brief(h.t), brief(other.t), err, len(clients))
	}
	if err != api.OK {
		return history{}, false
	}
	return history{tab, slices.Concat(h.rows, other.rows)}, true
}

// orders are all orders of 0 to n-1.
func orders(n int) [][]int {
	l := [][]int{nil}
	for i := range n {
		var longer [][]int
		for _, o := range l {
			for at := range len(o) + 1 {
				longer = append(longer, slices.Insert(slices.Clone(o), at, i))
			}
		}
		l = longer
	}
	return l
}

// wantInEachOrder merges four histories in each order, from the left, from the right and by pairs.
func wantInEachOrder(t *testing.T, l [4]history) {
	t.Helper()
	for _, o := range orders(4) {
		w, x, y, z := l[o[0]], l[o[1]], l[o[2]], l[o[3]]
		wx, ok1 := w.merge(t, x)
		yz, ok2 := y.merge(t, z)
		if !ok1 || !ok2 {
			t.Fatalf("too many clients")
		}
		left, _ := wx.merge(t, y)
		left, _ = left.merge(t, z)
		right, _ := x.merge(t, yz)
		right, _ = w.merge(t, right)
		pairs, _ := wx.merge(t, yz)
		for _, h := range []history{left, right, pairs} {
			h.wantRemembered(t)
			if len(h.rows) != len(slices.Concat(w.rows, x.rows, y.rows, z.rows)) {
				t.Errorf("the merge of %v is lost", o)
			}
		}
		// Who stands further left goes first where the Reqs are equal, however the merges are grouped.
		if !same(left.t, right.t) || !same(left.t, pairs.t) {
			t.Errorf("%s, %s and %s differ", brief(left.t), brief(right.t), brief(pairs.t))
		}
	}
}

func TestMergesInEachOrder(t *testing.T) {
	wantInEachOrder(t, [4]history{})
	d := dice(20)
	for range 60 {
		var l [4]history
		for i := range l {
			clients := 1 + d.below(topRows)
			for range d.below(14) {
				client, req := 1+d.below(clients), 1+d.below(9)
				l[i] = l[i].put(t, answered(client, req, fmt.Sprint("table", i)))
			}
			l[i].wantRemembered(t)
		}
		wantInEachOrder(t, l)
	}
}

// One shard is split into several, each goes on with its copy of the table, and they are merged again in whatever order.
func TestCopiesThatGoOnAndAreMerged(t *testing.T) {
	start := history{}
	for _, d := range []api.Done{row(3, 2), row(1, 4), row(3, 5), row(8, 1), row(1, 9)} {
		start = start.put(t, d)
	}
	l := [4]history{start, start.put(t, row(3, 6)), start.put(t, row(3, 7)).put(t, row(2, 1)), start.put(t, row(8, topNum)).put(t, row(1, 10))}
	wantInEachOrder(t, l)
	start.wantRemembered(t)
	end, _ := l[0].merge(t, l[1])
	end, _ = end.merge(t, l[2])
	end, _ = end.merge(t, l[3])
	if want := tableOf(row(1, 10), row(2, 1), row(3, 7), row(8, topNum)); !same(end.t, want) {
		t.Errorf("the merges give %s, want %s", brief(end.t), brief(want))
	}
}

func TestLongMixedHistories(t *testing.T) {
	for n := range 12 {
		d := dice(3000 + n)
		var l [5]history
		merges := 0
		for range 400 {
			i, j := d.below(5), d.below(5)
			switch d.below(8) {
			case 0:
				if h, ok := l[i].merge(t, l[j]); ok {
					l[i] = h
					merges++
				}
			case 1:
				l[i] = l[j]
			default:
				l[i] = l[i].put(t, row(1+d.below(3+n), 1+d.below(300)))
			}
			// Copies that are merged have recorded the same; it need not be asked twice.
			l[i].rows = unique(l[i].rows)
			l[i].wantRemembered(t)
		}
		if merges == 0 {
			t.Errorf("nothing was merged")
		}
	}
}

func unique(rows []api.Done) []api.Done {
	rows = slices.Clone(rows)
	slices.SortStableFunc(rows, func(a, b api.Done) int {
		return cmp.Or(cmp.Compare(a.Client, b.Client), cmp.Compare(a.Req, b.Req))
	})
	return slices.CompactFunc(rows, func(a, b api.Done) bool { return a.Client == b.Client && a.Req == b.Req })
}

// What is put in whatever order of the clients is the same table.
func TestPutsInEachOrder(t *testing.T) {
	rows := tableOf(row(2, 4), row(5, 1), row(6, topNum), row(9, 3), row(topNum, 7))
	for _, o := range orders(len(rows)) {
		var tab []api.Done
		for n, i := range o {
			var err api.Errno
			if tab, err = dedup.Put(tab, rows[i]); err != api.OK || len(tab) != n+1 {
				t.Fatalf("Put of %v gives %s, %d", rows[i], brief(tab), err)
			}
			wantRight(t, tab, true)
		}
		if !same(tab, rows) {
			t.Errorf("the puts give %s, want %s", brief(tab), brief(rows))
		}
	}
}

// R1

// Tables that are made of one, with room behind its end, do not get in each other's way.
func TestTablesMadeOfOne(t *testing.T) {
	room := make([]api.Done, 3, 100)
	copy(room, ofLength(3))
	put := func(tab []api.Done, d api.Done) []api.Done {
		t.Helper()
		tab, err := dedup.Put(tab, d)
		if err != api.OK {
			t.Fatalf("Put of %v: %d", d, err)
		}
		return tab
	}
	merge := func(a, b []api.Done) []api.Done {
		t.Helper()
		tab, err := dedup.Merge(a, b)
		if err != api.OK {
			t.Fatalf("Merge of %s and %s: %d", brief(a), brief(b), err)
		}
		return tab
	}
	w := ofLength(3)
	a, b := put(room, row(40, 1)), put(room, row(50, 1))
	c, d := put(a, row(60, 1)), put(a, row(70, 1))
	e, f := put(room, row(20, 6)), put(room, row(20, 7))
	g, h := put(room[:2], row(25, 1)), put(room[:2], row(5, 1))
	j, k := merge(room, b), merge(b, room)
	m, n := put(j, row(80, 1)), put(j, row(90, 1))
	p, q := merge(room, nil), merge(nil, room)
	r, s := put(p, row(30, 8)), put(q, row(30, 9))
	u, v := merge(room[:1], room[1:]), merge(e, f)
	for _, x := range []struct{ t, want []api.Done }{
		{room, w}, {a, append(ofLength(3), row(40, 1))}, {b, append(ofLength(3), row(50, 1))},
		{c, append(ofLength(3), row(40, 1), row(60, 1))}, {d, append(ofLength(3), row(40, 1), row(70, 1))},
		{e, replaced(w, 1, row(20, 6))}, {f, replaced(w, 1, row(20, 7))},
		{g, append(ofLength(2), row(25, 1))}, {h, inserted(w[:2], 0, row(5, 1))},
		{j, b}, {k, b}, {m, inserted(b, 4, row(80, 1))}, {n, inserted(b, 4, row(90, 1))},
		{p, w}, {q, w}, {r, replaced(w, 2, row(30, 8))}, {s, replaced(w, 2, row(30, 9))}, {u, w}, {v, f},
	} {
		if !same(x.t, x.want) {
			t.Errorf("%s has become %s", brief(x.want), brief(x.t))
		}
	}
	if behind := room[:7][3:]; !same(behind, make([]api.Done, 4)) {
		t.Errorf("%s has been written behind the table's end", brief(behind))
	}
}

// Two tables of one piece of memory, one behind the other or one over the other, are merged as any others.
func TestMergeOfTablesInOneMemory(t *testing.T) {
	all := ofLength(topRows)
	for i := range all {
		for j := range i + 1 {
			l := lend(all)
			if got, err := dedup.Merge(l.t[:i], l.t[j:]); !same(got, all) || err != api.OK {
				t.Errorf("Merge of the first %d and all from %d on = %s, %d", i, j, brief(got), err)
			}
			if got, err := dedup.Merge(l.t[j:], l.t[:i]); !same(got, all) || err != api.OK {
				t.Errorf("Merge of all from %d on and the first %d = %s, %d", j, i, brief(got), err)
			}
			l.wantKept(t, "Merge")
		}
	}
}

// P1, R2, R4

func TestTheSameCallTwice(t *testing.T) {
	d := dice(30)
	for range 2000 {
		a, b, r := d.table(d.below(10), 10), d.table(d.below(10), 10), d.row(10)
		if d.below(3) == 0 {
			a = d.wrong(a)
		}
		put, err := dedup.Put(a, r)
		wantPut(t, a, r, put, err)
		merged, err := dedup.Merge(a, b)
		wantMerge(t, a, b, merged, err)
		told, ok := dedup.Told(a, r.Client)
		wantTold(t, a, r.Client, told, ok)
		wantJudge(t, a, r.Client, r.Req, dedup.Judge(a, r.Client, r.Req))
		wantRight(t, a, dedup.Right(a))
	}
}
