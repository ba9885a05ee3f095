package stamp_test

import (
	"fmt"
	"math"
	"math/big"
	"regexp"
	"slices"
	"strings"
	"testing"

	"stratigraph/api"
	"stratigraph/pack"
	"stratigraph/stamp"
)

// The greatest numbers of a valid stamp, written out.
const (
	topWall = 1099511627776
	topTick = 1048576
	topNode = 255
)

// walls, ticks and nodes are numbers at, just below and just above each end of what is valid, and far from it.
var (
	walls = []int{math.MinInt, -topWall, -1, 0, 1, 127, 128, 300, topTick + 1, topWall - 1, topWall, topWall + 1, math.MaxInt}
	ticks = []int{math.MinInt, -1, 0, 1, 128, topTick - 1, topTick, topTick + 1, topWall, math.MaxInt}
	nodes = []int{math.MinInt, -255, -1, 0, 1, 127, 128, 254, 255, 256, 257, 511, topTick, math.MaxInt}
)

// forms are valid stamps with their encodings and printed forms, written out by hand.
var forms = []struct {
	s     api.Stamp
	bytes string
	word  string
}{
	{api.Stamp{}, "\x00\x00\x00", "0.0.0"},
	{api.Stamp{Wall: 5, Tick: 0, Node: 2}, "\x05\x00\x02", "5.0.2"},
	{api.Stamp{Wall: 0, Tick: 1, Node: 1}, "\x00\x01\x01", "0.1.1"},
	{api.Stamp{Wall: 1, Tick: 2, Node: 3}, "\x01\x02\x03", "1.2.3"},
	{api.Stamp{Wall: 127, Tick: 127, Node: 127}, "\x7f\x7f\x7f", "127.127.127"},
	{api.Stamp{Wall: 128, Tick: 129, Node: 130}, "\x80\x01\x81\x01\x82\x01", "128.129.130"},
	{api.Stamp{Wall: 300, Tick: 1, Node: 2}, "\xac\x02\x01\x02", "300.1.2"},
	{api.Stamp{Wall: 10, Tick: 100, Node: 200}, "\x0a\x64\xc8\x01", "10.100.200"},
	{api.Stamp{Wall: topWall}, "\x80\x80\x80\x80\x80\x20\x00\x00", "1099511627776.0.0"},
	{api.Stamp{Tick: topTick}, "\x00\x80\x80\x40\x00", "0.1048576.0"},
	{api.Stamp{Node: topNode}, "\x00\x00\xff\x01", "0.0.255"},
	{api.Stamp{Wall: topWall, Tick: topTick, Node: topNode}, "\x80\x80\x80\x80\x80\x20\x80\x80\x40\xff\x01", "1099511627776.1048576.255"},
	{api.Stamp{Wall: topWall - 1, Tick: topTick - 1, Node: topNode - 1}, "\xff\xff\xff\xff\xff\x1f\xff\xff\x3f\xfe\x01", "1099511627775.1048575.254"},
}

// all are the stamps of all walls, ticks and nodes, valid or not.
func all() []api.Stamp {
	var l []api.Stamp
	for _, wall := range walls {
		for _, tick := range ticks {
			for _, node := range nodes {
				l = append(l, api.Stamp{Wall: wall, Tick: tick, Node: node})
			}
		}
	}
	return l
}

// valid reports whether s is valid, in the chapter's words.
func valid(s api.Stamp) bool {
	switch {
	case s.Wall < 0, s.Tick < 0, s.Node < 0:
		return false
	case s.Wall > topWall, s.Tick > topTick, s.Node > topNode:
		return false
	}
	return true
}

// order compares by Wall, then by Tick, then by Node.
func order(a, b api.Stamp) int {
	return slices.Compare([]int{a.Wall, a.Tick, a.Node}, []int{b.Wall, b.Tick, b.Node})
}

// digits writes n in base 128, the least significant digit first, with 128 added to all but the last.
func digits(n int) string {
	var b []byte
	for ; n > 127; n /= 128 {
		b = append(b, byte(n%128)|128)
	}
	return string(append(b, byte(n)))
}

func encoding(s api.Stamp) string {
	return digits(s.Wall) + digits(s.Tick) + digits(s.Node)
}

// taken decodes the stamp at the beginning of s, in the chapter's words.
func taken(s string) (api.Stamp, string, api.Errno) {
	wall, afterWall, err := pack.Take(s)
	if err != api.OK {
		return api.Stamp{}, "", err
	}
	tick, afterTick, err := pack.Take(afterWall)
	if err != api.OK {
		return api.Stamp{}, "", err
	}
	node, rest, err := pack.Take(afterTick)
	if err != api.OK {
		return api.Stamp{}, "", err
	}
	x := api.Stamp{Wall: wall, Tick: tick, Node: node}
	if !valid(x) {
		return api.Stamp{}, "", api.ErrForm
	}
	return x, rest, api.OK
}

var printed = regexp.MustCompile(`\A(0|[1-9][0-9]*)\.(0|[1-9][0-9]*)\.(0|[1-9][0-9]*)\z`)

// read returns the stamp whose printed form is w, in the chapter's words.
func read(w string) (api.Stamp, api.Errno) {
	parts := printed.FindStringSubmatch(w)
	if parts == nil {
		return api.Stamp{}, api.ErrForm
	}
	var l [3]int
	for i, most := range []int64{topWall, topTick, topNode} {
		n, _ := new(big.Int).SetString(parts[i+1], 10)
		if n.Cmp(big.NewInt(most)) > 0 {
			return api.Stamp{}, api.ErrForm
		}
		l[i] = int(n.Int64())
	}
	return api.Stamp{Wall: l[0], Tick: l[1], Node: l[2]}, api.OK
}

func wantBytes(t *testing.T, x api.Stamp, want string, wantErr api.Errno) {
	t.Helper()
	if s, err := stamp.Bytes(x); s != want || err != wantErr {
		t.Errorf("Bytes(%v) = %q, %d, want %q, %d", x, s, err, want, wantErr)
	}
}

func wantTake(t *testing.T, s string, want api.Stamp, wantRest string, wantErr api.Errno) {
	t.Helper()
	if x, rest, err := stamp.Take(s); x != want || rest != wantRest || err != wantErr {
		t.Errorf("Take(%q) = %v, %q, %d, want %v, %q, %d", s, x, rest, err, want, wantRest, wantErr)
	}
}

func wantNoTake(t *testing.T, s string, want api.Errno) {
	t.Helper()
	wantTake(t, s, api.Stamp{}, "", want)
}

func wantRead(t *testing.T, w string, want api.Stamp, wantErr api.Errno) {
	t.Helper()
	if x, err := stamp.Read(w); x != want || err != wantErr {
		t.Errorf("Read(%.60q) = %v, %d, want %v, %d", w, x, err, want, wantErr)
	}
}

func wantNoRead(t *testing.T, w string) {
	t.Helper()
	wantRead(t, w, api.Stamp{}, api.ErrForm)
}

// P5.1

func TestRightAtEachEnd(t *testing.T) {
	for _, x := range []struct {
		s    api.Stamp
		want bool
	}{
		{api.Stamp{}, true},
		{api.Stamp{Wall: 5, Tick: 0, Node: 2}, true},
		{api.Stamp{Wall: 1 << 40, Tick: 1 << 20, Node: 255}, true},
		{api.Stamp{Wall: 1<<40 - 1, Tick: 1<<20 - 1, Node: 254}, true},
		{api.Stamp{Wall: 1 << 40}, true},
		{api.Stamp{Wall: 1<<40 + 1}, false},
		{api.Stamp{Wall: -1}, false},
		{api.Stamp{Wall: math.MaxInt}, false},
		{api.Stamp{Wall: math.MinInt}, false},
		{api.Stamp{Tick: 1 << 20}, true},
		{api.Stamp{Tick: 1<<20 + 1}, false},
		{api.Stamp{Tick: 1 << 40}, false},
		{api.Stamp{Tick: -1}, false},
		{api.Stamp{Tick: math.MaxInt}, false},
		{api.Stamp{Tick: math.MinInt}, false},
		{api.Stamp{Node: 255}, true},
		{api.Stamp{Node: 256}, false},
		{api.Stamp{Node: 1 << 20}, false},
		{api.Stamp{Node: -1}, false},
		{api.Stamp{Node: math.MaxInt}, false},
		{api.Stamp{Node: math.MinInt}, false},
		{api.Stamp{Wall: -1, Tick: -1, Node: -1}, false},
		{api.Stamp{Wall: 1<<40 + 1, Tick: 1<<20 + 1, Node: 256}, false},
	} {
		if stamp.Right(x.s) != x.want {
			t.Errorf("Right(%v) = %t", x.s, !x.want)
		}
	}
}

func TestRightByDefinition(t *testing.T) {
	for _, s := range all() {
		if stamp.Right(s) != valid(s) {
			t.Errorf("Right(%v) = %t", s, !valid(s))
		}
	}
}

func TestOrderWrittenOut(t *testing.T) {
	for _, x := range []struct {
		sooner, later api.Stamp
	}{
		// They differ in one number alone.
		{api.Stamp{Wall: 5, Tick: 6, Node: 7}, api.Stamp{Wall: 6, Tick: 6, Node: 7}},
		{api.Stamp{Wall: 5, Tick: 6, Node: 7}, api.Stamp{Wall: 5, Tick: 7, Node: 7}},
		{api.Stamp{Wall: 5, Tick: 6, Node: 7}, api.Stamp{Wall: 5, Tick: 6, Node: 8}},
		{api.Stamp{}, api.Stamp{Wall: 1}},
		{api.Stamp{}, api.Stamp{Tick: 1}},
		{api.Stamp{}, api.Stamp{Node: 1}},
		// Numbers are compared, not their digits.
		{api.Stamp{Wall: 9}, api.Stamp{Wall: 10}},
		{api.Stamp{Tick: 9}, api.Stamp{Tick: 10}},
		{api.Stamp{Node: 9}, api.Stamp{Node: 10}},
		{api.Stamp{Wall: 1}, api.Stamp{Wall: 1 << 40}},
		// Two numbers point opposite ways.
		{api.Stamp{Wall: 5, Node: 9}, api.Stamp{Wall: 5, Tick: 1}},
		{api.Stamp{Wall: 5, Tick: 9}, api.Stamp{Wall: 6, Tick: 1}},
		{api.Stamp{Wall: 5, Node: 9}, api.Stamp{Wall: 6, Node: 1}},
		{api.Stamp{Wall: 5, Tick: 1 << 20, Node: 255}, api.Stamp{Wall: 6}},
		{api.Stamp{Wall: 5, Tick: 1, Node: 255}, api.Stamp{Wall: 5, Tick: 2}},
		// They need not be valid.
		{api.Stamp{Wall: -1}, api.Stamp{}},
		{api.Stamp{Tick: -1}, api.Stamp{}},
		{api.Stamp{Node: -1}, api.Stamp{}},
		{api.Stamp{Node: 256}, api.Stamp{Tick: 1, Node: -256}},
		{api.Stamp{Tick: 1<<20 + 1}, api.Stamp{Wall: 1}},
		{api.Stamp{Wall: math.MinInt}, api.Stamp{Wall: math.MaxInt}},
		{api.Stamp{Tick: math.MinInt}, api.Stamp{Tick: math.MaxInt}},
		{api.Stamp{Node: math.MinInt}, api.Stamp{Node: math.MaxInt}},
		{api.Stamp{Wall: math.MinInt, Tick: math.MaxInt, Node: math.MaxInt}, api.Stamp{Wall: math.MinInt + 1, Tick: math.MinInt, Node: math.MinInt}},
	} {
		wantOrder(t, x.sooner, x.later, -1)
		wantOrder(t, x.later, x.sooner, 1)
		wantOrder(t, x.sooner, x.sooner, 0)
		wantOrder(t, x.later, x.later, 0)
	}
}

// wantOrder asks for what Compare, Later and Sooner say of a and b.
func wantOrder(t *testing.T, a, b api.Stamp, want int) {
	t.Helper()
	later, sooner := b, a
	if want > 0 {
		later, sooner = a, b
	}
	if got := stamp.Compare(a, b); got != want {
		t.Errorf("Compare(%v, %v) = %d, want %d", a, b, got, want)
	}
	if got := stamp.Later(a, b); got != later {
		t.Errorf("Later(%v, %v) = %v", a, b, got)
	}
	if got := stamp.Sooner(a, b); got != sooner {
		t.Errorf("Sooner(%v, %v) = %v", a, b, got)
	}
}

func TestOrderByDefinition(t *testing.T) {
	l := all()
	for i, a := range l {
		for j := i % 7; j < len(l); j += 7 {
			wantOrder(t, a, l[j], order(a, l[j]))
		}
	}
}

// P5.2

func TestBytesWrittenOut(t *testing.T) {
	for _, x := range forms {
		wantBytes(t, x.s, x.bytes, api.OK)
	}
}

func TestBytesOfEachStamp(t *testing.T) {
	for _, s := range all() {
		if valid(s) {
			wantBytes(t, s, encoding(s), api.OK)
		} else {
			wantBytes(t, s, "", api.ErrArg)
		}
	}
}

func TestBytesOfInvalidStamps(t *testing.T) {
	for _, s := range []api.Stamp{{Wall: -1}, {Tick: -1}, {Node: -1}, {Wall: 1<<40 + 1}, {Tick: 1<<20 + 1}, {Node: 256}, {Wall: 1, Tick: 2, Node: -1}, {Wall: math.MaxInt}, {Node: math.MinInt}} {
		wantBytes(t, s, "", api.ErrArg)
	}
}

func TestTakeWithMoreBehind(t *testing.T) {
	for _, x := range forms {
		for _, rest := range []string{"", "z", "\x00", "\x80", "\xff\xff", "\x00\x00\x00", x.bytes} {
			wantTake(t, x.bytes+rest, x.s, rest, api.OK)
		}
	}
}

func TestTakeCutShort(t *testing.T) {
	for _, x := range forms {
		for n := range len(x.bytes) {
			wantNoTake(t, x.bytes[:n], api.ErrShort)
			wantNoTake(t, x.bytes[:n]+"\x80\xff", api.ErrShort)
			// What follows is read as the numbers that are missing.
			for _, rest := range []string{"\x00", "z", "\x00\x00", "\x01\x02\x03", "\x80\x02\x80\x02\x80\x02", "\xff\xff\xff\x7f\x00\x00"} {
				s := x.bytes[:n] + rest
				want, wantRest, wantErr := taken(s)
				wantTake(t, s, want, wantRest, wantErr)
			}
		}
	}
	wantNoTake(t, "\x01\x01\x80\x80\x80\x80\x80\x80\x80\x80\x80\x80\x80\x80\x80", api.ErrShort)
}

func TestTakeOfWhatIsNoEncoding(t *testing.T) {
	for _, s := range []string{
		// Written in more bytes than needed.
		"\x85\x00\x00\x02", "\x05\x80\x00\x02", "\x05\x00\x82\x00", "\x80\x80\x00\x00\x00", "\x00\x00\xff\x80\x00",
		// Numbers above 2^63 - 1.
		"\x80\x80\x80\x80\x80\x80\x80\x80\x80\x01\x00\x00",
		"\x00\x80\x80\x80\x80\x80\x80\x80\x80\x80\x01\x00",
		"\x00\x00\x80\x80\x80\x80\x80\x80\x80\x80\x80\x01",
		"\x00\x00\xff\xff\xff\xff\xff\xff\xff\xff\xff\xff\x7f",
		// 2^64 + 1, which is 1 to those who count in 64 bits.
		"\x81\x80\x80\x80\x80\x80\x80\x80\x80\x02\x00\x00",
	} {
		wantNoTake(t, s, api.ErrForm)
		wantNoTake(t, s+"z", api.ErrForm)
		wantNoTake(t, s+"\x80", api.ErrForm)
	}
}

func TestTakeOfInvalidStamps(t *testing.T) {
	for _, s := range []api.Stamp{
		{Wall: 1<<40 + 1}, {Wall: 1<<40 + 1, Tick: 1, Node: 2}, {Wall: math.MaxInt},
		{Tick: 1<<20 + 1}, {Wall: 5, Tick: 1<<20 + 1, Node: 2}, {Tick: 1 << 40}, {Tick: math.MaxInt},
		{Node: 256}, {Wall: 5, Tick: 1, Node: 256}, {Node: 1 << 20}, {Node: math.MaxInt},
		{Wall: math.MaxInt, Tick: math.MaxInt, Node: math.MaxInt},
	} {
		wantNoTake(t, encoding(s), api.ErrForm)
		wantNoTake(t, encoding(s)+"z", api.ErrForm)
	}
}

func TestTakeNamesTheFirstError(t *testing.T) {
	const great = "\xff\xff\xff\xff\xff\xff\xff\xff\x7f"
	const long = "\x85\x00"
	for _, x := range []struct {
		s    string
		want api.Errno
	}{
		// An error of a number that follows comes before a number that is too great for a stamp.
		{great, api.ErrShort},
		{great + great, api.ErrShort},
		{great + great + "\x80", api.ErrShort},
		{"\x00" + great + "\x80", api.ErrShort},
		{"\x00\x81\x80\x80\x01", api.ErrShort},
		{great + great + long, api.ErrForm},
		// Of two numbers with errors, the first tells.
		{long, api.ErrForm},
		{long + "\x80", api.ErrForm},
		{"\x00" + long, api.ErrForm},
		{"\x00" + long + "\x80", api.ErrForm},
		{"\x00\x80", api.ErrShort},
		// No byte below 128 is left, so it does not matter how great the number would be.
		{"\xff\xff\xff\xff\xff\xff\xff\xff\xff\xff\xff\xff", api.ErrShort},
		{"\x00\x00\xff\xff\xff\xff\xff\xff\xff\xff\xff\xff\xff\xff", api.ErrShort},
	} {
		wantNoTake(t, x.s, x.want)
	}
}

func TestTakeByDefinition(t *testing.T) {
	numbers := []string{"", "\x00", "\x05", "\x7f", "\x80", "\x80\x00", "\x80\x01", "\xff\x01", "\x80\x02", "\x80\x80\x40", "\x81\x80\x40", "\x80\x80\x80\x80\x80\x20", "\x81\x80\x80\x80\x80\x20", "\xff\xff\xff\xff\xff\xff\xff\xff\x7f", "\x80\x80\x80\x80\x80\x80\x80\x80\x80\x01"}
	for _, wall := range numbers {
		for _, tick := range numbers {
			for _, node := range numbers {
				for _, rest := range []string{"", "\x00", "\x80", "rest"} {
					s := wall + tick + node + rest
					want, wantRest, wantErr := taken(s)
					wantTake(t, s, want, wantRest, wantErr)
				}
			}
		}
	}
}

// P5.3

func TestShowWrittenOut(t *testing.T) {
	for _, x := range forms {
		if w := stamp.Show(x.s); w != x.word {
			t.Errorf("Show(%v) = %q, want %q", x.s, w, x.word)
		}
	}
}

func TestShowOfEachStamp(t *testing.T) {
	for _, s := range all() {
		want := ""
		if valid(s) {
			want = fmt.Sprintf("%d.%d.%d", s.Wall, s.Tick, s.Node)
		}
		if w := stamp.Show(s); w != want {
			t.Errorf("Show(%v) = %q, want %q", s, w, want)
		}
	}
}

func TestReadWrittenOut(t *testing.T) {
	for _, x := range forms {
		wantRead(t, x.word, x.s, api.OK)
	}
}

func TestReadOfWhatIsNoPrintedForm(t *testing.T) {
	for _, w := range []string{
		// Too few and too many parts, and empty ones.
		"", ".", "..", "...", "1", "1.", ".1", "1.2", "1.2.", ".1.2", "1..2", "..1", "1..", ".1.", "1.2.3.", ".1.2.3", "1..2.3", "1.2..3", "1.2.3.4", "1.2.3.4.5", "0.0.0.0", "123",
		// Leading zeros.
		"01.2.3", "1.02.3", "1.2.03", "00.0.0", "0.00.0", "0.0.00", "1.2.0255", "0000000000000000000000001.2.3",
		// Signs.
		"-1.2.3", "1.-2.3", "1.2.-3", "-0.0.0", "0.-0.0", "0.0.-0", "+1.2.3", "1.+2.3", "1.2.+3", "-.2.3", "1.+.3",
		// Spaces and line ends.
		" 1.2.3", "1.2.3 ", "1 .2.3", "1. 2.3", "1.2 .3", "1.2. 3", "1.2.3\n", "\t1.2.3", "1.2.3\r\n", "1 2 3", "\u00a01.2.3", "1.2.3\x00",
		// Letters other than the digits 0 to 9.
		"a.b.c", "1.2.x", "x.2.3", "1.x.3", "0x1.2.3", "1.0b1.3", "1.2.0o7", "1e3.2.3", "1_0.2.3", "1,2,3", "1:2:3", "1.2,3", "1.2.3z", "%.2.3", "1.2.\u0663", "\uff11.2.3", "\u0967.2.3", "1.2.\u00b2", "1\u20242\u20243", "1.2.\xff", "1.2.3\xff", "\ufffd.2.3", "1.2./", "1.2.:", "inf.2.3", "5.0.2!",
		// Numbers just above what is valid, and far above.
		"1099511627777.0.0", "0.1048577.0", "0.0.256", "1099511627776.1048576.256", "1099511627776.1048577.255", "1099511627777.1048576.255",
		"9999999999999.0.0", "0.9999999.0", "0.0.999", "0.1099511627776.0", "0.0.1048576",
		"9223372036854775807.0.0", "9223372036854775808.0.0", "0.9223372036854775808.0", "0.0.9223372036854775808", "-9223372036854775808.0.0",
		// These are small to those who count in 64 or 32 bits.
		"18446744073709551617.2.3", "1.18446744073709551618.3", "1.2.18446744073709551619", "1.4294967298.3", "1.2.4294967299", "36893488147419103233.2.3",
	} {
		wantNoRead(t, w)
	}
}

func TestReadOfDigitsWithoutEnd(t *testing.T) {
	for _, digit := range []string{"0", "1", "9"} {
		many := strings.Repeat(digit, 100000)
		wantNoRead(t, many)
		wantNoRead(t, many+".2.3")
		wantNoRead(t, "1."+many+".3")
		wantNoRead(t, "1.2."+many)
	}
	wantNoRead(t, strings.Repeat(".", 100000))
	wantNoRead(t, strings.Repeat("1.", 100000)+"1")
}

func TestReadByDefinition(t *testing.T) {
	parts := []string{"", "0", "1", "9", "00", "01", "10", "-1", "+1", " 1", "1 ", "a", "\xff", "255", "256", "1048576", "1048577", "1099511627776", "1099511627777", "18446744073709551616", "1.2"}
	for _, wall := range parts {
		for _, tick := range parts {
			for _, node := range parts {
				for _, between := range []string{".", "", ","} {
					w := wall + between + tick + "." + node
					want, wantErr := read(w)
					wantRead(t, w, want, wantErr)
				}
			}
		}
	}
}

func TestReadOfEachByte(t *testing.T) {
	for _, x := range forms {
		for i := range len(x.word) {
			for b := range 256 {
				w := x.word[:i] + string([]byte{byte(b)}) + x.word[i+1:]
				want, wantErr := read(w)
				wantRead(t, w, want, wantErr)
			}
		}
	}
}

// P5.4

func TestOrderIsTotal(t *testing.T) {
	var l []api.Stamp
	for _, wall := range []int{math.MinInt, -1, 0, topWall} {
		for _, tick := range []int{-1, 0, 1, topTick + 1} {
			for _, node := range []int{-1, 0, 255} {
				l = append(l, api.Stamp{Wall: wall, Tick: tick, Node: node})
			}
		}
	}
	for _, a := range l {
		for _, b := range l {
			wantOneLater(t, a, b)
			for _, c := range l {
				if stamp.Compare(a, b) <= 0 && stamp.Compare(b, c) <= 0 && stamp.Compare(a, c) > 0 {
					t.Errorf("%v, %v, %v go round", a, b, c)
				}
			}
		}
	}
}

// wantOneLater asks that of two different stamps one is later, whichever is named first.
func wantOneLater(t *testing.T, a, b api.Stamp) {
	t.Helper()
	order := stamp.Compare(a, b)
	if (order == 0) != (a == b) || stamp.Compare(b, a) != -order {
		t.Errorf("Compare(%v, %v) = %d", a, b, order)
	}
	later, sooner := stamp.Later(a, b), stamp.Sooner(a, b)
	if later != stamp.Later(b, a) || sooner != stamp.Sooner(b, a) || stamp.Compare(later, sooner) != order*order {
		t.Errorf("Later and Sooner of %v, %v are %v, %v", a, b, later, sooner)
	}
}

func TestTakeAndReadInvert(t *testing.T) {
	words, codes := map[string]api.Stamp{}, map[string]api.Stamp{}
	for _, s := range all() {
		if !valid(s) {
			continue
		}
		w := stamp.Show(s)
		wantRead(t, w, s, api.OK)
		code, err := stamp.Bytes(s)
		if err != api.OK {
			t.Errorf("Bytes(%v): %d", s, err)
		}
		wantTake(t, code+"rest", s, "rest", api.OK)
		if other, ok := words[w]; ok {
			t.Errorf("%v and %v are both printed as %q", s, other, w)
		}
		if other, ok := codes[code]; ok {
			t.Errorf("%v and %v are both encoded as %q", s, other, code)
		}
		words[w], codes[code] = s, s
	}
}

// P1, R4

func TestAnyInput(t *testing.T) {
	const some = "\x00\x01\x7f\x80\xff.0919-+ a"
	for n := range len(some) * len(some) * len(some) * len(some) * len(some) {
		b := make([]byte, 5)
		for i := range b {
			b[i], n = some[n%len(some)], n/len(some)
		}
		s := string(b)
		wantWhole(t, s)
		x, rest, err := taken(s)
		wantTake(t, s, x, rest, err)
		x, err = read(s)
		wantRead(t, s, x, err)
	}
}

// wantWhole asks that what Take has read is written as it stood.
func wantWhole(t *testing.T, s string) {
	t.Helper()
	x, rest, err := stamp.Take(s)
	if err != api.OK {
		return
	}
	if code, _ := stamp.Bytes(x); code+rest != s {
		t.Errorf("Take(%q) = %v, %q, but Bytes gives %q", s, x, rest, code)
	}
}
