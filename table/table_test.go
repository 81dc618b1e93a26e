package table_test

import (
	"math"
	"slices"
	"testing"

	"ziggurat/api"
	"ziggurat/meter"
	"ziggurat/table"
)

// ranges are the least and the greatest of each entry, in the order of api.Table.
var ranges = [11][2]int{{4, 64}, {12, 8192}, {64, 16384}, {4, 1024}, {4, 4096}, {2, 1024}, {2, 1024}, {4, 256}, {4, 1024}, {2, 1024}, {2, 256}}

// names are those of the routes.
var names = [6]string{"Nothing", "School", "Block", "Kara", "Toom", "Ntt"}

// entries are a table's numbers, in the order of api.Table.
func entries(t api.Table) [11]int {
	return [11]int{t.Base, t.Toom, t.Ntt, t.Div, t.Recip, t.Lehmer, t.Radix, t.Poly, t.Kron, t.Series, t.Tree}
}

// tableOf is the table with these numbers.
func tableOf(e [11]int) api.Table {
	return api.Table{Base: e[0], Toom: e[1], Ntt: e[2], Div: e[3], Recip: e[4], Lehmer: e[5], Radix: e[6], Poly: e[7], Kron: e[8], Series: e[9], Tree: e[10]}
}

// routing is a table whose products hang on these three alone.
func routing(base, toom, ntt int) api.Table {
	return api.Table{Base: base, Toom: toom, Ntt: ntt}
}

// source is a row of numbers that is the same in every run.
type source uint64

// below is a number from 0 to n - 1.
func (s *source) below(n int) int {
	*s = *s*6364136223846793005 + 1442695040888963407
	return int(uint64(*s) >> 33 % uint64(n))
}

// any is a number of all kinds: about an entry's range, far off, at an end of the ints.
func (s *source) any() int {
	switch s.below(6) {
	case 0:
		return s.below(80)
	case 1:
		return s.below(20000)
	case 2:
		return -s.below(1 << 20)
	case 3:
		return math.MinInt + s.below(3)
	case 4:
		return math.MaxInt - s.below(3)
	}
	return s.below(400)
}

// tables are some within their ranges, at the ends, and of any numbers.
func tables() []api.Table {
	list := []api.Table{
		{},
		routing(4, 12, 64), routing(64, 8192, 16384), routing(4, 8192, 16384), routing(64, 12, 64), routing(4, 12, 16384), routing(4, 8192, 64),
		routing(5, 13, 65), routing(7, 40, 200), routing(32, 20, 90), routing(9, 17, 1000), routing(16, 100, 257),
		routing(math.MinInt, math.MaxInt, math.MinInt), routing(math.MaxInt, math.MinInt, math.MaxInt), routing(-1, 99999, 99999),
	}
	s := source(4)
	for range 25 {
		var e [11]int
		for i := range e {
			e[i] = s.any()
		}
		list = append(list, tableOf(e))
	}
	return list
}

// is holds one answer against what is asked.
func is(t *testing.T, told string, answer, asked int) {
	t.Helper()
	if answer != asked {
		t.Errorf("%s: %d; asked is %d", told, answer, asked)
	}
}

func TestClampEachEntry(t *testing.T) {
	for i, r := range ranges {
		least, most := r[0], r[1]
		for _, c := range [][2]int{
			{math.MinInt, least}, {math.MinInt + 1, least}, {-most, least}, {-1, least}, {0, least}, {1, least}, {least - 1, least},
			{least, least}, {least + 1, least + 1}, {(least + most) / 2, (least + most) / 2}, {most - 1, most - 1}, {most, most},
			{most + 1, most}, {2 * most, most}, {1 << 40, most}, {math.MaxInt - 1, most}, {math.MaxInt, most},
		} {
			var handed, asked [11]int
			for j := range asked {
				// The others are within their ranges, each at another place, and stay.
				handed[j] = ranges[j][0] + j
				asked[j] = handed[j]
			}
			handed[i], asked[i] = c[0], c[1]
			if got := entries(table.Clamp(tableOf(handed))); got != asked {
				t.Errorf("entry %d of %d: %v; asked is %v", i, c[0], got, asked)
			}
		}
	}
}

func TestClampAllEntries(t *testing.T) {
	var least, most, low, high [11]int
	for i, r := range ranges {
		least[i], most[i] = r[0], r[1]
		low[i], high[i] = math.MinInt, math.MaxInt
	}
	for _, c := range [][2][11]int{{{}, least}, {low, least}, {least, least}, {high, most}, {most, most}} {
		if got := entries(table.Clamp(tableOf(c[0]))); got != c[1] {
			t.Errorf("%v: %v; asked is %v", c[0], got, c[1])
		}
	}
	for _, x := range tables() {
		if once := table.Clamp(x); table.Clamp(once) != once {
			t.Errorf("%v: clamped twice it is another one", x)
		}
	}
}

func TestLeast(t *testing.T) {
	all := []int{101, -102, math.MinInt, math.MaxInt, 0, 106, -107, 108, 109, 110, 111, 112, 113}
	for n := range len(all) + 1 {
		var asked [11]int
		copy(asked[:], all[:n])
		if got := entries(table.Least(all[:n]...)); got != asked {
			t.Errorf("of %d: %v; asked is %v", n, got, asked)
		}
	}
	if table.Least() != (api.Table{}) || table.Least([]int{}...) != (api.Table{}) {
		t.Error("of none: it is not empty")
	}
	if table.Least(7, 8) != (api.Table{Base: 7, Toom: 8}) {
		t.Error("of two")
	}
	if got := table.Least(make([]int, 1000)...); got != (api.Table{}) {
		t.Errorf("of a thousand noughts: %v", got)
	}
}

func TestLeastLeavesItsNumbers(t *testing.T) {
	room := []int{1, 2, 3, 4, 5}
	kept := slices.Clone(room)
	got := table.Least(room[:3]...)
	if got != (api.Table{Base: 1, Toom: 2, Ntt: 3}) {
		t.Errorf("behind the length: %v", got)
	}
	if !slices.Equal(room, kept) {
		t.Errorf("its numbers are changed: %v", room)
	}
	room[0] = 99
	if got.Base != 1 {
		t.Error("its numbers are kept")
	}
}

func TestNew(t *testing.T) {
	for _, x := range tables() {
		tune := table.New(x)
		if tune.Table != table.Clamp(x) {
			t.Errorf("%v: its table is %v", x, tune.Table)
		}
		if tune.Meter != (meter.Meter{}) {
			t.Errorf("%v: its meter is not new", x)
		}
	}
	tune := table.New(table.Least(10, 0, 100, 5000))
	is(t, "Base", tune.Base, 10)
	is(t, "Toom", tune.Toom, 12)
	is(t, "Ntt", tune.Ntt, 100)
	is(t, "Div", tune.Div, 1024)
	is(t, "Tree", tune.Tree, 2)
}

func TestNewMeter(t *testing.T) {
	a, b := table.New(api.Table{}), table.New(api.Table{})
	is(t, "Spend", a.Spend(3), 3)
	is(t, "Spend", a.Spend(4), 7)
	is(t, "Enter", a.Enter(), 1)
	is(t, "Muls", a.Meter.Muls(), 7)
	is(t, "Route spends nothing", a.Route(40, 40), table.Ntt)
	is(t, "Muls behind Route", a.Muls(), 7)
	is(t, "Deep behind Route", a.Deep(), 1)
	if b.Meter != (meter.Meter{}) {
		t.Error("two have one meter")
	}
	if c := table.New(a.Table); c.Meter != (meter.Meter{}) || c.Table != a.Table {
		t.Error("one of another's table")
	}
	a.Reset()
	if a.Meter != (meter.Meter{}) || a.Table != table.Clamp(api.Table{}) {
		t.Error("Reset")
	}
}

func TestMethodGoesByItsOwnTable(t *testing.T) {
	a, b := table.New(routing(10, 20, 64)), table.New(routing(4, 8192, 16384))
	is(t, "the first one's", a.Route(9, 9), table.School)
	is(t, "the second one's", b.Route(9, 9), table.Kara)
	is(t, "the first one's", a.Route(40, 40), table.Ntt)
	is(t, "the second one's", b.Route(40, 40), table.Kara)
}

// oneRoute asks for a route either way round, by the function and by the method.
func oneRoute(t *testing.T, x api.Table, n, m, asked int) {
	t.Helper()
	tune := table.New(x)
	for _, got := range []int{table.Route(x, n, m), table.Route(x, m, n), tune.Route(n, m), tune.Route(m, n)} {
		if got != asked {
			t.Errorf("%v, %d by %d: route %d; asked is %s", x, n, m, got, names[asked])
		}
	}
}

func TestRouteNumbers(t *testing.T) {
	got := [6]int{table.Nothing, table.School, table.Block, table.Kara, table.Toom, table.Ntt}
	if got != [6]int{0, 1, 2, 3, 4, 5} {
		t.Error(got)
	}
}

func TestRouteNothing(t *testing.T) {
	for _, x := range tables() {
		for _, n := range []int{0, 1, 4, 64, 5000, api.MaxWords} {
			oneRoute(t, x, n, 0, table.Nothing)
			for _, m := range []int{-1, -4, math.MinInt, api.MaxWords + 1, 2 * api.MaxWords, 1 << 40, math.MaxInt} {
				oneRoute(t, x, n, m, table.Nothing)
			}
		}
		oneRoute(t, x, math.MinInt, math.MaxInt, table.Nothing)
		oneRoute(t, x, math.MaxInt, math.MaxInt, table.Nothing)
		oneRoute(t, x, api.MaxWords+1, api.MaxWords+1, table.Nothing)
		oneRoute(t, x, -5, -5, table.Nothing)
	}
}

func TestRouteSchool(t *testing.T) {
	for _, base := range []int{4, 5, 17, 63, 64} {
		x := routing(base, 8192, 16384)
		for _, n := range []int{base, 2 * base, 300, api.MaxWords} {
			oneRoute(t, x, n, 1, table.School)
			oneRoute(t, x, n, base-1, table.School)
		}
		oneRoute(t, x, 1, 1, table.School)
		oneRoute(t, x, base-1, base-1, table.School)
		oneRoute(t, x, base, base, table.Kara)
		oneRoute(t, x, base+1, base, table.Kara)
		oneRoute(t, x, 2*base, base, table.Block)
	}
	// Base is asked ahead of Toom and Ntt, where it is above both.
	x := routing(64, 12, 64)
	oneRoute(t, x, 63, 63, table.School)
	oneRoute(t, x, 64, 63, table.School)
	oneRoute(t, x, 64, 64, table.Ntt)
	oneRoute(t, routing(64, 12, 16384), 64, 64, table.Toom)
}

func TestRouteBlock(t *testing.T) {
	kara, ntt := routing(4, 8192, 16384), routing(4, 12, 64)
	for _, m := range []int{4, 5, 6, 11, 12, 63, 64, 65, 1000, 8190} {
		oneRoute(t, kara, 2*m-2, m, table.Kara)
		oneRoute(t, kara, 2*m-1, m, table.Block)
		oneRoute(t, kara, 2*m, m, table.Block)
		oneRoute(t, kara, api.MaxWords, m, table.Block)
		oneRoute(t, ntt, 2*m-1, m, table.Block)
	}
	// Block is asked ahead of Ntt, however long both are.
	oneRoute(t, ntt, api.MaxWords, 8192, table.Block)
	oneRoute(t, ntt, api.MaxWords, 8193, table.Ntt)
	oneRoute(t, kara, api.MaxWords, 8192, table.Block)
	oneRoute(t, kara, api.MaxWords, 8193, table.Ntt)
	oneRoute(t, kara, api.MaxWords-1, 8192, table.Block)
	oneRoute(t, kara, api.MaxWords-2, 8192, table.Ntt)
}

func TestRouteKaraBelowToom(t *testing.T) {
	for _, toom := range []int{12, 13, 33, 64, 500, 8000} {
		x := routing(4, toom, 16384)
		oneRoute(t, x, toom-1, toom-1, table.Kara)
		oneRoute(t, x, toom, toom-1, table.Kara)
		oneRoute(t, x, toom, toom, table.Toom)
		oneRoute(t, x, toom+1, toom, table.Toom)
		oneRoute(t, x, 2*toom-4, toom-1, table.Kara)
	}
	// Toom is asked ahead of Ntt: it is the shorter one's length that counts.
	x := routing(4, 100, 64)
	oneRoute(t, x, 99, 99, table.Kara)
	oneRoute(t, x, 196, 99, table.Kara)
	oneRoute(t, x, 100, 99, table.Kara)
	oneRoute(t, x, 100, 100, table.Ntt)
	x = routing(4, 8192, 64)
	oneRoute(t, x, 8191, 8191, table.Kara)
	oneRoute(t, x, 8192, 8191, table.Kara)
	oneRoute(t, x, 8192, 8192, table.Ntt)
}

func TestRouteNtt(t *testing.T) {
	for _, ntt := range []int{64, 65, 100, 1001, 16384} {
		x := routing(4, 12, ntt)
		for gap := range 6 {
			n := (ntt + gap) / 2
			m := ntt - n
			oneRoute(t, x, n, m, table.Ntt)
			oneRoute(t, x, n, m-1, table.Toom)
			oneRoute(t, x, n+1, m, table.Ntt)
		}
	}
	// Ntt is asked ahead of Toom's pieces.
	oneRoute(t, routing(4, 12, 64), 40, 24, table.Ntt)
	oneRoute(t, routing(4, 12, 65), 40, 24, table.Kara)
	oneRoute(t, routing(4, 12, 64), api.MaxWords, api.MaxWords, table.Ntt)
	oneRoute(t, routing(64, 8192, 16384), api.MaxWords, api.MaxWords, table.Ntt)
}

func TestRouteToomAndKaraBehindIt(t *testing.T) {
	x := routing(4, 12, 16384)
	// n, and twice its third: that is the greatest m that goes in two pieces.
	for _, c := range [][2]int{{17, 12}, {18, 12}, {19, 14}, {20, 14}, {21, 14}, {22, 16}, {23, 16}, {24, 16}, {100, 68}, {101, 68}, {102, 68}, {103, 70}, {2998, 2000}, {2999, 2000}, {3000, 2000}} {
		oneRoute(t, x, c[0], c[1], table.Kara)
		oneRoute(t, x, c[0], c[1]+1, table.Toom)
		oneRoute(t, x, c[0], c[0], table.Toom)
	}
	for _, c := range [][2]int{{12, 12}, {13, 12}, {14, 12}, {15, 12}, {16, 13}} {
		oneRoute(t, x, c[0], c[1], table.Toom)
	}
	oneRoute(t, x, 16, 12, table.Kara)
	oneRoute(t, x, 22, 12, table.Kara)
	oneRoute(t, x, 23, 12, table.Block)
}

func TestTransform(t *testing.T) {
	for _, c := range [][4]int{
		{1, 1, 0, 24}, {1, 1, 1, 27}, {1, 1, 2, 30}, {1, 1, 3, 33},
		{2, 1, 3, 84}, {2, 2, 3, 84}, {3, 1, 3, 84}, {3, 2, 3, 204}, {4, 1, 3, 204}, {4, 4, 3, 204}, {7, 1, 3, 204},
		{4, 4, 0, 96}, {8, 1, 0, 192}, {8, 1, 1, 288}, {8, 1, 2, 384}, {8, 1, 3, 480},
		{32, 31, 3, 2496}, {32, 32, 3, 2496}, {33, 32, 3, 5568}, {32, 32, 2, 1920},
		{8192, 8192, 3, 4*16384*14 + 16384*14/2 + 12*16384},
		{8193, 8192, 3, 4*32768*15 + 32768*15/2 + 12*32768},
		{16384, 1, 2, 3*32768*15 + 12*32768}, {16384, 16384, 2, 3*32768*15 + 12*32768}, {16384, 16384, 3, 2605056}, {16383, 1, 3, 1228800},
	} {
		is(t, "Transform", table.Transform(c[0], c[1], c[2]), c[3])
		is(t, "Transform, the other way round", table.Transform(c[1], c[0], c[2]), c[3])
	}
}

func TestTransformAtPowers(t *testing.T) {
	for log := 1; log <= 14; log++ {
		size := 1 << log
		for ways := range 4 {
			asked := 3*ways*size/2*log + 12*size
			longer := 3*ways*size*(log+1) + 24*size
			for _, n := range []int{1, size / 2, size - 1} {
				is(t, "a power of two", table.Transform(n, size-n, ways), asked)
				is(t, "one more", table.Transform(n+1, size-n, ways), longer)
				is(t, "one more", table.Transform(n, size-n+1, ways), longer)
			}
			if size > 2 {
				is(t, "one more than the half", table.Transform(size/4+1, size/4, ways), asked)
			}
		}
	}
}

func TestTransformNought(t *testing.T) {
	none := []int{math.MinInt, -1 << 40, -1, 0, api.MaxWords + 1, 2 * api.MaxWords, 1 << 40, math.MaxInt}
	for _, n := range none {
		for ways := range 4 {
			is(t, "a length that may not be", table.Transform(n, 4, ways), 0)
			is(t, "the other one", table.Transform(4, n, ways), 0)
			is(t, "the other one, the longest", table.Transform(api.MaxWords, n, ways), 0)
			is(t, "both", table.Transform(n, n, ways), 0)
		}
	}
	for _, ways := range []int{math.MinInt, -3, -1, 4, 5, 1 << 40, math.MaxInt} {
		is(t, "ways that may not be", table.Transform(4, 4, ways), 0)
		is(t, "ways that may not be", table.Transform(api.MaxWords, 1, ways), 0)
	}
}

// oneCost asks for the cost either way round.
func oneCost(t *testing.T, x api.Table, n, m, asked int) {
	t.Helper()
	for _, got := range []int{table.Cost(x, n, m), table.Cost(x, m, n)} {
		if got != asked {
			t.Errorf("%v, %d by %d: cost %d; asked is %d", x, n, m, got, asked)
		}
	}
}

func TestCostByHand(t *testing.T) {
	small, kara, toom := routing(4, 12, 64), routing(4, 8192, 16384), routing(4, 12, 16384)
	oneCost(t, table.Least(4), 4, 4, 17)
	// School.
	oneCost(t, small, 1, 1, 1)
	oneCost(t, small, 3, 3, 9)
	oneCost(t, small, api.MaxWords, 3, 3*api.MaxWords)
	oneCost(t, routing(64, 12, 64), 63, 63, 63*63)
	// Block: pieces of m words, and what is left, if there is any.
	oneCost(t, small, 7, 4, 17+4*3)
	oneCost(t, small, 8, 4, 2*17)
	oneCost(t, small, 9, 4, 2*17+4*1)
	oneCost(t, small, 11, 4, 2*17+4*3)
	oneCost(t, small, api.MaxWords, 4, api.MaxWords/4*17)
	oneCost(t, small, 9, 5, 30+28)
	// Kara: 5 by 5 are 3 by 3, 2 by 2, 4 by 4; 5 by 4 are 3 by 3, 2 by 1, 4 by 4; and so on.
	oneCost(t, small, 5, 4, 9+2+17)
	oneCost(t, small, 5, 5, 9+4+17)
	oneCost(t, small, 6, 4, 9+3+17)
	oneCost(t, small, 6, 5, 9+6+17)
	oneCost(t, small, 6, 6, 9+9+17)
	oneCost(t, small, 7, 7, 17+9+30)
	oneCost(t, small, 8, 8, 17+17+30)
	oneCost(t, small, 11, 11, 35+30+56)
	oneCost(t, small, 11, 8, 35+5*2+56)
	oneCost(t, small, 15, 11, 64+7*3+82)
	oneCost(t, kara, 12, 12, 35+35+56)
	// Kara behind Toom: 17 by 12 are 9 by 9, 8 by 3, 10 by 10.
	oneCost(t, kara, 9, 9, 30+17+35)
	oneCost(t, kara, 10, 10, 30+30+35)
	oneCost(t, toom, 17, 12, 82+8*3+95)
	// Toom: at 0, at three points, at infinity.
	oneCost(t, small, 12, 12, 17+3*30+17)
	oneCost(t, small, 13, 12, 30+3*35+3*2)
	oneCost(t, small, 13, 13, 30+3*35+3*3)
	oneCost(t, small, 15, 12, 30+3*35+5*2)
	oneCost(t, small, 15, 15, 30+3*35+30)
	// Ntt.
	oneCost(t, small, 32, 32, 2496)
	oneCost(t, small, 40, 24, 2496)
	oneCost(t, small, 42, 23, 5568)
	oneCost(t, small, api.MaxWords, api.MaxWords, 2605056)
	// Block of transforms: 100 by 40 are 40 by 40 twice, 40 by 20; that is 20 by 20 twice.
	is(t, "Transform", table.Transform(40, 40, 3), 5568)
	oneCost(t, small, 20, 20, 56+3*64+35)
	oneCost(t, small, 40, 20, 2*283)
	oneCost(t, small, 100, 40, 2*5568+2*283)
}

func TestSquareByHand(t *testing.T) {
	small := routing(4, 12, 64)
	for _, c := range []struct {
		told     string
		x        api.Table
		n, asked int
	}{
		{"one word", small, 1, 1}, {"School", small, 2, 3}, {"School", small, 3, 6},
		{"School", routing(64, 12, 64), 63, 63 * 32},
		{"Kara: 2, 2, 3", small, 4, 3 + 3 + 6},
		{"Kara: 3, 2, 4", small, 5, 6 + 3 + 12},
		{"Kara: 3, 3, 4", small, 6, 6 + 6 + 12},
		{"Kara: 4, 3, 5", small, 7, 12 + 6 + 21},
		{"Kara: 6, 5, 7", small, 11, 24 + 21 + 39},
		{"Kara: 6, 6, 7", routing(4, 13, 64), 12, 24 + 24 + 39},
		{"Toom: 4, 5, 4", small, 12, 12 + 3*21 + 12},
		{"Toom: 5, 6, 3", small, 13, 21 + 3*24 + 6},
		{"Toom: 5, 6, 4", small, 14, 21 + 3*24 + 12},
		{"Toom: 5, 6, 5", small, 15, 21 + 3*24 + 21},
		{"Toom: 6, 7, 4", small, 16, 24 + 3*39 + 12},
		{"Ntt", small, 32, 1920},
		{"Ntt", small, 33, 3*128*7 + 12*128},
		{"Ntt", small, api.MaxWords, 3*32768*15 + 12*32768},
		{"Ntt", routing(64, 8192, 16384), 8192, 3*16384*14 + 12*16384},
	} {
		is(t, c.told, table.Square(c.x, c.n), c.asked)
	}
}

func TestCostNought(t *testing.T) {
	for _, x := range tables() {
		for _, n := range []int{math.MinInt, -1 << 40, -4, -1, 0, api.MaxWords + 1, 2 * api.MaxWords, 1 << 40, math.MaxInt} {
			oneCost(t, x, n, 0, 0)
			oneCost(t, x, n, 1, 0)
			oneCost(t, x, n, 40, 0)
			oneCost(t, x, n, api.MaxWords, 0)
			oneCost(t, x, n, n, 0)
			is(t, "Square", table.Square(x, n), 0)
		}
	}
}

// byRules is the cost by the seven rules as the document has them, of each product on its own.
func byRules(t api.Table, n, m int) int {
	if n < m {
		n, m = m, n
	}
	h, k := (n+1)/2, (n+2)/3
	if m == 0 {
		return 0
	}
	if m < t.Base {
		return n * m
	}
	if 2*m <= n+1 {
		sum := 0
		for left := n; left > 0; left -= m {
			sum += byRules(t, min(left, m), m)
		}
		return sum
	}
	if m >= t.Toom && n+m >= t.Ntt {
		return table.Transform(n, m, 3)
	}
	if m >= t.Toom && m > 2*k {
		return byRules(t, k, k) + 3*byRules(t, k+1, k+1) + byRules(t, n-2*k, m-2*k)
	}
	return byRules(t, h, h) + byRules(t, n-h, m-h) + byRules(t, h+1, h+1)
}

// squareByRules is the cost of a square by the document's rules, of each square on its own.
func squareByRules(t api.Table, n int) int {
	h, k := (n+1)/2, (n+2)/3
	switch {
	case n < t.Base:
		return n * (n + 1) / 2
	case n < t.Toom:
		return squareByRules(t, h) + squareByRules(t, n-h) + squareByRules(t, h+1)
	case 2*n >= t.Ntt:
		return table.Transform(n, n, 2)
	}
	return squareByRules(t, k) + 3*squareByRules(t, k+1) + squareByRules(t, n-2*k)
}

func TestCostByRules(t *testing.T) {
	for _, x := range tables() {
		clamped := table.Clamp(x)
		for n := range 90 {
			for m := range n + 1 {
				oneCost(t, x, n, m, byRules(clamped, n, m))
			}
		}
		s := source(11)
		for range 60 {
			n, m := s.below(1000), s.below(1000)
			oneCost(t, x, n, m, byRules(clamped, n, m))
		}
	}
}

func TestSquareByRules(t *testing.T) {
	for _, x := range tables() {
		clamped := table.Clamp(x)
		for n := range 400 {
			is(t, "Square", table.Square(x, n), squareByRules(clamped, n))
		}
		for _, n := range []int{1000, 4095, 4096, 8191, 8192, api.MaxWords - 1, api.MaxWords} {
			is(t, "Square", table.Square(x, n), squareByRules(clamped, n))
		}
	}
}

func TestLongProductsByRules(t *testing.T) {
	for _, x := range []api.Table{routing(4, 8192, 16384), routing(4, 12, 16384), routing(64, 8192, 64)} {
		for _, c := range [][2]int{{8191, 8191}, {16380, 8191}, {16381, 8191}, {16384, 5000}, {16384, 8193}, {16384, 16384}, {12345, 6789}, {16383, 100}} {
			oneCost(t, x, c[0], c[1], byRules(x, c[0], c[1]))
		}
	}
}

func TestClampedTableIsTheSame(t *testing.T) {
	for _, x := range tables() {
		clamped := table.Clamp(x)
		s := source(3)
		for range 200 {
			n, m := s.below(500), s.below(500)
			oneRoute(t, x, n, m, table.Route(clamped, n, m))
			oneCost(t, x, n, m, table.Cost(clamped, n, m))
			is(t, "Square", table.Square(x, n), table.Square(clamped, n))
		}
	}
}

func TestOtherEntriesAreNothing(t *testing.T) {
	s := source(8)
	for range 200 {
		e := [11]int{7, 30, 150}
		plain := tableOf(e)
		for i := 3; i < 11; i++ {
			e[i] = s.any()
		}
		x := tableOf(e)
		n, m := s.below(300), s.below(300)
		oneRoute(t, x, n, m, table.Route(plain, n, m))
		oneCost(t, x, n, m, table.Cost(plain, n, m))
		is(t, "Square", table.Square(x, n), table.Square(plain, n))
	}
}

// bounds holds the cost of n by m words against 8 n m.
func bounds(t *testing.T, x api.Table, n, m int) {
	t.Helper()
	if c := table.Cost(x, n, m); c > 8*n*m || c < 1 {
		t.Errorf("%v, %d by %d: cost %d", x, n, m, c)
	}
}

// squareBounds holds a square against 8 n n, and n by n words in two pieces against Base Base 3^L.
func squareBounds(t *testing.T, x api.Table, n int) {
	t.Helper()
	if s := table.Square(x, n); s > 8*n*n || s < 1 {
		t.Errorf("%v: the square of %d: %d", x, n, s)
	}
	clamped := table.Clamp(x)
	power := 1
	for k := n; k > 0; k /= 2 {
		power *= 3
	}
	if c := table.Cost(x, n, n); clamped.Toom > n && c > clamped.Base*clamped.Base*power {
		t.Errorf("%v: %d by %d: cost %d, in two pieces", x, n, n, c)
	}
}

func TestBoundsOfShortProducts(t *testing.T) {
	for _, x := range tables() {
		for n := 1; n <= 130; n++ {
			for m := 1; m <= n; m++ {
				bounds(t, x, n, m)
			}
			squareBounds(t, x, n)
		}
	}
}

func TestBoundsOfLongProducts(t *testing.T) {
	for _, x := range tables() {
		for n := 131; n <= api.MaxWords; n += 1 + n/6 {
			for m := 1; m <= n; m += 1 + m/5 {
				bounds(t, x, n, m)
			}
			squareBounds(t, x, n)
		}
		for log := 7; log <= 14; log++ {
			for _, n := range []int{1<<log - 1, 1 << log, min(1<<log+1, api.MaxWords)} {
				bounds(t, x, n, n)
				bounds(t, x, n, n/2+2)
				squareBounds(t, x, n)
			}
		}
	}
}
