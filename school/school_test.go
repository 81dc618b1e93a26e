package school_test

import (
	"encoding/binary"
	"math"
	"math/big"
	"slices"
	"strconv"
	"testing"

	"ziggurat/api"
	"ziggurat/meter"
	"ziggurat/school"
	"ziggurat/table"
)

const (
	half = uint64(1) << 63
	most = ^uint64(0)
)

// source is a row of words that is the same in every run; each fourth or so is at an edge.
type source uint64

func (s *source) next() uint64 {
	*s = *s*6364136223846793005 + 1442695040888963407
	x := uint64(*s)
	x ^= x >> 29
	switch x >> 59 {
	case 0, 1:
		return 0
	case 2, 3:
		return most
	case 4:
		return half
	case 5:
		return x & 3
	case 6:
		return most - x&3
	}
	return x * 0x9e3779b97f4a7c15
}

func (s *source) row(n int) api.Nat {
	a := make(api.Nat, n)
	for i := range a {
		a[i] = s.next()
	}
	return a
}

// samples are rows of all kinds: none, noughts alone, noughts on top, at the bottom and in the midst, the greatest words, and many.
func samples() []api.Nat {
	list := []api.Nat{
		nil, {}, {0}, {0, 0}, {0, 0, 0, 0, 0},
		{1}, {2}, {7}, {half}, {half - 1}, {half + 1}, {most - 1}, {most}, {1 << 32}, {1<<32 - 1}, {1<<32 + 1},
		{1, 0}, {0, 1}, {0, 0, 1}, {0, 0, 1, 0, 0}, {1, 0, 0, 0, 1},
		{most, 0}, {0, most}, {0, most, 0}, {most, 0, most}, {most, 0, 0, most, 0, 0}, {0, 0, most, most}, {0, most, 0, most, 0},
		{5, 7}, {7, 5, 0}, {3, 0, 4}, {half, half - 1}, {0, half}, {half, half, half},
		{most, most}, {most - 1, most}, {most, most - 1}, {most, most, most, 0}, {1, most, most}, {most, most, 1},
	}
	s := source(5)
	for n := 1; n < 10; n++ {
		list = append(list, s.row(n), append(s.row(n), 0, 0), append(api.Nat{0, 0, 0}, s.row(n)...), slices.Concat(s.row(n), api.Nat{0, 0}, s.row(2)))
	}
	return list
}

// byColumns is a b reckoned in columns of digits of 16 places, whose sums are carried at the end.
func byColumns(a, b api.Nat) api.Nat {
	x, y := digits(a), digits(b)
	columns := make([]uint64, len(x)+len(y))
	for i, p := range x {
		for j, q := range y {
			columns[i+j] += p * q
		}
	}
	out := make(api.Nat, len(a)+len(b))
	var carry uint64
	for i, c := range columns {
		c += carry
		out[i/4] |= c & 0xffff << (i % 4 * 16)
		carry = c >> 16
	}
	return out
}

// digits are the digits of 16 places, the lowest first.
func digits(a api.Nat) []uint64 {
	var out []uint64
	for _, w := range a {
		out = append(out, w&0xffff, w>>16&0xffff, w>>32&0xffff, w>>48)
	}
	return out
}

// bigOf is the number that the row says.
func bigOf(a api.Nat) *big.Int {
	bytes := make([]byte, 0, 8*len(a))
	for _, w := range slices.Backward(a) {
		bytes = binary.BigEndian.AppendUint64(bytes, w)
	}
	return new(big.Int).SetBytes(bytes)
}

// wantBig holds an answer against the number that it must be: it has no zero words on top.
func wantBig(t *testing.T, got api.Nat, want *big.Int, call string, args ...any) {
	t.Helper()
	if len(got) > 0 && got[len(got)-1] == 0 {
		t.Fatalf("%s%v: noughts on top: %v", call, args, got)
	}
	if bigOf(got).Cmp(want) != 0 {
		t.Fatalf("%s%v: got %v, want %x", call, args, got, want)
	}
}

// wantWords holds an answer against the words that it must have, whatever stands on top of these.
func wantWords(t *testing.T, got, want api.Nat, call string, args ...any) {
	t.Helper()
	if !slices.Equal(got, want[:want.Len()]) {
		t.Fatalf("%s%v: got %v, want %v", call, args, got, want)
	}
}

// is holds one answer against what is asked.
func is(t *testing.T, told string, answer, asked int) {
	t.Helper()
	if answer != asked {
		t.Errorf("%s: %d; asked is %d", told, answer, asked)
	}
}

// checkMul holds a product, and what it spends, against sums by hand and against package big.
func checkMul(t *testing.T, e *school.Engine, a, b api.Nat) {
	t.Helper()
	before := e.Muls()
	got := e.Mul(a, b)
	if spent := e.Muls() - before; spent != len(a)*len(b) {
		t.Fatalf("Mul of %d by %d words spends %d", len(a), len(b), spent)
	}
	wantWords(t, got, byColumns(a, b), "Mul", a, b)
	wantBig(t, got, new(big.Int).Mul(bigOf(a), bigOf(b)), "Mul", a, b)
}

// checkSqr is checkMul of a square.
func checkSqr(t *testing.T, e *school.Engine, a api.Nat) {
	t.Helper()
	want := 0
	for i := range a {
		want += i + 1
	}
	before := e.Muls()
	got := e.Sqr(a)
	if spent := e.Muls() - before; spent != want {
		t.Fatalf("Sqr of %d words spends %d; asked is %d", len(a), spent, want)
	}
	wantWords(t, got, byColumns(a, a), "Sqr", a)
	wantBig(t, got, new(big.Int).Mul(bigOf(a), bigOf(a)), "Sqr", a)
}

// P5.1: New

func TestNew(t *testing.T) {
	for _, x := range []api.Table{
		{},
		table.Least(4, 12, 64, 4, 4, 2, 2, 4, 4, 2, 2),
		table.Least(5, 13, 65, 5, 5, 3, 3, 5, 5, 3, 3),
		table.Least(99999, 99999, 99999, 99999, 99999, 99999, 99999, 99999, 99999, 99999, 99999),
		table.Least(math.MinInt, math.MaxInt, -1, math.MinInt, math.MaxInt, 7, -7, 100, 1<<40, -1<<40, 20),
	} {
		e := school.New(x)
		if e.Table != table.Clamp(x) || e.Tune.Table != table.New(x).Table || e.Base != table.Clamp(x).Base {
			t.Errorf("%v: %v", x, e.Table)
		}
		is(t, "Muls", e.Muls(), 0)
		is(t, "Now", e.Now(), 0)
		is(t, "Deep", e.Deep(), 0)
	}
}

// A table changes no product and nothing that is spent: what is done by hand is done so at any length.
func TestTables(t *testing.T) {
	s := source(9)
	a, b := s.row(40), s.row(70)
	for _, x := range []api.Table{{}, table.Least(64, 8192, 16384), table.Least(math.MinInt, math.MinInt, math.MinInt), table.Least(math.MaxInt, math.MaxInt, math.MaxInt)} {
		e := school.New(x)
		checkMul(t, e, a, b)
		checkSqr(t, e, b)
		is(t, "Muls", e.Muls(), 40*70+70*71/2)
		is(t, "Deep", e.Deep(), 0)
	}
}

// P5.1: Mul and Sqr

func TestExample(t *testing.T) {
	e := school.New(api.Table{})
	wantWords(t, e.Mul(api.Nat{most}, api.Nat{most}), api.Nat{1, most - 1}, "Mul of B - 1 by itself")
	is(t, "Muls", e.Muls(), 1)
	wantWords(t, e.Sqr(api.Nat{most}), api.Nat{1, most - 1}, "Sqr of B - 1")
	is(t, "Muls", e.Muls(), 2)
}

func TestSmall(t *testing.T) {
	e := school.New(api.Table{})
	for _, c := range []struct {
		a, b, want api.Nat
		spent      int
	}{
		{nil, nil, nil, 0},
		{nil, api.Nat{5}, nil, 0},
		{api.Nat{5}, api.Nat{}, nil, 0},
		{api.Nat{0}, api.Nat{5}, nil, 1},
		{api.Nat{0, 0}, api.Nat{5, 6, 0}, nil, 6},
		{api.Nat{1}, api.Nat{7}, api.Nat{7}, 1},
		{api.Nat{6}, api.Nat{7}, api.Nat{42}, 1},
		{api.Nat{6, 0}, api.Nat{7, 0, 0}, api.Nat{42}, 6},
		{api.Nat{0, 6}, api.Nat{0, 0, 7}, api.Nat{0, 0, 0, 42}, 6},
		{api.Nat{1 << 32}, api.Nat{1 << 32}, api.Nat{0, 1}, 1},
		{api.Nat{half}, api.Nat{2}, api.Nat{0, 1}, 1},
		{api.Nat{1, 2, 3}, api.Nat{10, 100}, api.Nat{10, 120, 230, 300}, 6},
		{api.Nat{1, 0, 3}, api.Nat{5, 0, 7}, api.Nat{5, 0, 22, 0, 21}, 9},
		{api.Nat{most, most}, api.Nat{most}, api.Nat{1, most, most - 1}, 2},
		{api.Nat{most, most}, api.Nat{most, most}, api.Nat{1, 0, most - 1, most}, 4},
	} {
		for _, pair := range [][2]api.Nat{{c.a, c.b}, {c.b, c.a}} {
			e.Reset()
			wantWords(t, e.Mul(pair[0], pair[1]), c.want, "Mul", pair[0], pair[1])
			is(t, "Muls", e.Muls(), c.spent)
		}
	}
}

func TestSmallSquares(t *testing.T) {
	e := school.New(api.Table{})
	for _, c := range []struct {
		a, want api.Nat
		spent   int
	}{
		{nil, nil, 0}, {api.Nat{}, nil, 0}, {api.Nat{0}, nil, 1}, {api.Nat{0, 0, 0}, nil, 6},
		{api.Nat{1}, api.Nat{1}, 1}, {api.Nat{1, 0}, api.Nat{1}, 3}, {api.Nat{0, 1}, api.Nat{0, 0, 1}, 3},
		{api.Nat{12}, api.Nat{144}, 1},
		{api.Nat{1, 2}, api.Nat{1, 4, 4}, 3},
		{api.Nat{1, 2, 3}, api.Nat{1, 4, 10, 12, 9}, 6},
		{api.Nat{1, 2, 3, 4}, api.Nat{1, 4, 10, 20, 25, 24, 16}, 10},
		{api.Nat{3, 0, 4}, api.Nat{9, 0, 24, 0, 16}, 6},
		{api.Nat{0, half}, api.Nat{0, 0, 0, 1 << 62}, 3},
		{api.Nat{half, 1}, api.Nat{0, 1 << 62, 2}, 3},
		{api.Nat{most, most}, api.Nat{1, 0, most - 1, most}, 3},
	} {
		e.Reset()
		wantWords(t, e.Sqr(c.a), c.want, "Sqr", c.a)
		is(t, "Muls", e.Muls(), c.spent)
	}
}

func TestPairs(t *testing.T) {
	e := school.New(api.Table{})
	for _, a := range samples() {
		for _, b := range samples() {
			checkMul(t, e, a, b)
		}
		checkSqr(t, e, a)
	}
}

func TestManyLengths(t *testing.T) {
	e := school.New(api.Table{})
	s := source(3)
	for n := range 30 {
		for m := range 30 {
			checkMul(t, e, s.row(n), s.row(m))
		}
		checkSqr(t, e, s.row(n))
	}
	for _, n := range []int{63, 64, 65, 100, 129, 200} {
		checkMul(t, e, s.row(n), s.row(3))
		checkMul(t, e, s.row(3), s.row(n))
		checkMul(t, e, s.row(n), s.row(n+1))
		checkSqr(t, e, s.row(n))
	}
}

// Zero words of one factor and of both, on top, at the bottom and in the midst, cost as much as all others.
func TestZeroWords(t *testing.T) {
	e := school.New(api.Table{})
	var rows []api.Nat
	for n := range 5 {
		for places := range 1 << n {
			row := make(api.Nat, n)
			for i := range row {
				if places>>i&1 == 1 {
					row[i] = most - uint64(i)
				}
			}
			rows = append(rows, row)
		}
	}
	for _, a := range rows {
		for _, b := range rows {
			checkMul(t, e, a, b)
		}
		checkSqr(t, e, a)
	}
}

// (B^n - 1) (B^m - 1) is B^(n + m) - B^n - B^m + 1, which is the greatest product of all of n by m words.
func TestGreatestWords(t *testing.T) {
	e := school.New(api.Table{})
	one := big.NewInt(1)
	ones := func(n int) *big.Int {
		p := new(big.Int).Lsh(one, uint(64*n))
		return p.Sub(p, one)
	}
	for n := range 41 {
		a := slices.Repeat(api.Nat{most}, n)
		for m := range 41 {
			b := slices.Repeat(api.Nat{most}, m)
			e.Reset()
			wantBig(t, e.Mul(a, b), new(big.Int).Mul(ones(n), ones(m)), "Mul of ones", n, m)
			is(t, "Muls", e.Muls(), n*m)
		}
		e.Reset()
		wantBig(t, e.Sqr(a), new(big.Int).Mul(ones(n), ones(n)), "Sqr of ones", n)
		is(t, "Muls", e.Muls(), n*(n+1)/2)
		checkMul(t, e, a, append(slices.Clone(a), 0))
		checkSqr(t, e, append(slices.Clone(a), 0, 0))
	}
}

// The words of the square of ones are told one by one: 1, noughts, B - 2, then the greatest.
func TestGreatestSquareByWords(t *testing.T) {
	e := school.New(api.Table{})
	for n := 1; n < 100; n++ {
		a := slices.Repeat(api.Nat{most}, n)
		want := make(api.Nat, 2*n)
		want[0] = 1
		for i := n; i < 2*n; i++ {
			want[i] = most
		}
		want[n]--
		wantWords(t, e.Sqr(a), want, "Sqr of ones", n)
		wantWords(t, e.Mul(a, a), want, "Mul of ones", n)
	}
}

func TestSpentTogether(t *testing.T) {
	e := school.New(api.Table{})
	s := source(11)
	sum := 0
	for n := range 12 {
		e.Mul(s.row(n), s.row(2*n+1))
		sum += n * (2*n + 1)
		is(t, "Mul", e.Muls(), sum)
		e.Sqr(s.row(n))
		sum += n * (n + 1) / 2
		is(t, "Sqr", e.Muls(), sum)
		e.Mul(make(api.Nat, n), make(api.Nat, 3))
		sum += 3 * n
		is(t, "Mul of noughts", e.Muls(), sum)
	}
	e.Reset()
	is(t, "Reset", e.Muls(), 0)
	e.Sqr(make(api.Nat, 7))
	is(t, "Sqr of noughts", e.Muls(), 28)
}

// The longest rows that may be handed in.
func TestMostWords(t *testing.T) {
	e := school.New(api.Table{})
	s := source(13)
	a := s.row(api.MaxWords)
	b := s.row(30)
	wantBig(t, e.Mul(a, b), new(big.Int).Mul(bigOf(a), bigOf(b)), "Mul of the longest")
	is(t, "Muls", e.Muls(), 30*api.MaxWords)
	wantBig(t, e.Mul(b, a), new(big.Int).Mul(bigOf(a), bigOf(b)), "Mul by the longest")
	is(t, "Muls", e.Muls(), 60*api.MaxWords)
	e.Reset()
	wantBig(t, e.Sqr(a), new(big.Int).Mul(bigOf(a), bigOf(a)), "Sqr of the longest")
	is(t, "Muls", e.Muls(), api.MaxWords*(api.MaxWords+1)/2)
}

// P5.1: Power

// exponents are what is handed in, and what it is cut to.
var exponents = [][2]int{
	{math.MinInt, 0}, {-1 << 40, 0}, {-64, 0}, {-1, 0}, {0, 0}, {1, 1}, {2, 2}, {3, 3}, {4, 4}, {5, 5}, {7, 7}, {8, 8}, {31, 31}, {32, 32}, {33, 33},
	{62, 62}, {63, 63}, {64, 64}, {65, 64}, {66, 64}, {127, 64}, {128, 64}, {1 << 40, 64}, {math.MaxInt - 1, 64}, {math.MaxInt, 64},
}

func TestPower(t *testing.T) {
	e := school.New(api.Table{})
	for _, a := range samples() {
		for _, n := range exponents {
			want := new(big.Int).Exp(bigOf(a), big.NewInt(int64(n[1])), nil)
			wantBig(t, e.Power(a, n[0]), want, "Power", a, n[0])
		}
	}
}

func TestPowerAtEachExponent(t *testing.T) {
	e := school.New(api.Table{})
	for _, w := range []uint64{0, 1, 2, 3, 10, most} {
		want := big.NewInt(1)
		for n := range 65 {
			wantBig(t, e.Power(api.Nat{w}, n), want, "Power", w, n)
			want.Mul(want, bigOf(api.Nat{w}))
		}
	}
}

func TestPowersByWords(t *testing.T) {
	e := school.New(api.Table{})
	for _, c := range []struct {
		a    api.Nat
		n    int
		want api.Nat
	}{
		{nil, -1, api.Nat{1}}, {nil, 0, api.Nat{1}}, {nil, 1, nil}, {api.Nat{0, 0}, 64, nil}, {api.Nat{0}, 65, nil},
		{api.Nat{1}, -1, api.Nat{1}}, {api.Nat{1, 0, 0}, 0, api.Nat{1}}, {api.Nat{1, 0, 0}, 1, api.Nat{1}}, {api.Nat{1}, 64, api.Nat{1}}, {api.Nat{1}, 1000, api.Nat{1}},
		{api.Nat{2}, 63, api.Nat{half}}, {api.Nat{2}, 64, api.Nat{0, 1}}, {api.Nat{2}, 65, api.Nat{0, 1}},
		{api.Nat{3}, 40, api.Nat{12157665459056928801}},
		{api.Nat{5, 7, 0}, 1, api.Nat{5, 7}}, {api.Nat{5, 7, 0}, 2, api.Nat{25, 70, 49}},
		{api.Nat{0, 1}, 3, api.Nat{0, 0, 0, 1}},
	} {
		wantWords(t, e.Power(c.a, c.n), c.want, "Power", c.a, c.n)
	}
}

// A power goes by Muls of its own engine: these are spent, and there are none where there is nothing to multiply.
func TestPowerSpends(t *testing.T) {
	e := school.New(api.Table{})
	for _, n := range []int{math.MinInt, -1, 0} {
		e.Power(api.Nat{5, 7}, n)
		is(t, "Power without a factor", e.Muls(), 0)
	}
	for _, n := range []int{2, 3, 10, 64, 65} {
		e.Reset()
		other := school.New(api.Table{})
		out := api.Nat{1}
		for range min(n, 64) {
			out = other.Mul(out, api.Nat{most, most, 0})
		}
		wantWords(t, e.Power(api.Nat{most, most, 0}, n), out, "Power", n)
		is(t, "Power", e.Muls(), other.Muls())
		is(t, "Deep", e.Deep(), 0)
	}
}

// R4

// room is the row in memory that has more behind it, and that whole memory.
func room(a api.Nat) (row, whole api.Nat) {
	whole = slices.Concat(a, api.Nat{most, 3, most, 5})
	return whole[:len(a)], whole
}

func TestHandedInIsLeft(t *testing.T) {
	e := school.New(api.Table{})
	for _, a := range samples() {
		for _, b := range samples() {
			x, wholeX := room(a)
			y, wholeY := room(b)
			beforeX, beforeY := slices.Clone(wholeX), slices.Clone(wholeY)
			wantWords(t, e.Mul(x, y), byColumns(a, b), "Mul", a, b)
			wantWords(t, e.Sqr(x), byColumns(a, a), "Sqr", a)
			e.Power(y, 3)
			if !slices.Equal(wholeX, beforeX) || !slices.Equal(wholeY, beforeY) {
				t.Fatalf("%v, %v: what was handed in is changed", a, b)
			}
		}
	}
}

// One memory may be both factors, or overlap the other.
func TestOneMemory(t *testing.T) {
	e := school.New(api.Table{})
	s := source(17)
	whole := s.row(12)
	before := slices.Clone(whole)
	for i := range 9 {
		checkMul(t, e, whole, whole[i:])
		checkMul(t, e, whole[i:i+3], whole[2:7])
		checkMul(t, e, whole[:i], whole[:i])
	}
	if !slices.Equal(whole, before) {
		t.Error("what was handed in is changed")
	}
}

// fill writes over all that an answer has, its spare room too.
func fill(a api.Nat) {
	a = a[:cap(a)]
	for i := range a {
		a[i] = 0xdead
	}
}

func TestAnswersAreNew(t *testing.T) {
	e := school.New(api.Table{})
	calls := map[string]func(a api.Nat) api.Nat{
		"Mul":             func(a api.Nat) api.Nat { return e.Mul(a, api.Nat{1}) },
		"Mul by the row":  func(a api.Nat) api.Nat { return e.Mul(api.Nat{1}, a) },
		"Sqr":             e.Sqr,
		"Power 0":         func(a api.Nat) api.Nat { return e.Power(a, 0) },
		"Power 1":         func(a api.Nat) api.Nat { return e.Power(a, 1) },
		"Power 2":         func(a api.Nat) api.Nat { return e.Power(a, 2) },
		"Mul of itself":   func(a api.Nat) api.Nat { return e.Mul(a, a) },
		"Mul by noughts":  func(a api.Nat) api.Nat { return e.Mul(a, api.Nat{0, 0}) },
		"Mul by nothing":  func(a api.Nat) api.Nat { return e.Mul(a, nil) },
		"Mul by a second": func(a api.Nat) api.Nat { return e.Mul(a, api.Nat{0, 1}) },
	}
	for name, call := range calls {
		for _, a := range []api.Nat{nil, {0}, {1}, {1, 0}, {3, 4}, {0, most, 7, 0}} {
			x, whole := room(a)
			before := slices.Clone(whole)
			first := call(x)
			kept := slices.Clone(first)
			second := call(x)
			fill(first)
			if !slices.Equal(whole, before) || !slices.Equal(second, kept) || !slices.Equal(call(x), kept) {
				t.Errorf("%s of %v: an answer's memory is another's too", name, a)
			}
		}
	}
}

// An answer is kept by nobody: what was handed in may be changed behind the call.
func TestNothingIsKept(t *testing.T) {
	e := school.New(api.Table{})
	a, b := api.Nat{3, most}, api.Nat{5, 6, 7}
	product, square, power := e.Mul(a, b), e.Sqr(a), e.Power(a, 1)
	asked := [3]api.Nat{byColumns(a, b), byColumns(a, a), {3, most}}
	fill(a)
	fill(b)
	for i, got := range [3]api.Nat{product, square, power} {
		wantWords(t, got, asked[i], "answer "+strconv.Itoa(i))
	}
	wantWords(t, e.Mul(api.Nat{2}, api.Nat{3}), api.Nat{6}, "Mul behind it")
}

// Ways

// counter is what a Tune promotes.
type counter interface {
	Spend(n int) int
	Muls() int
	Enter() int
	Leave() int
	Deep() int
	Now() int
	Reset()
	Route(n, m int) int
}

func TestPromoted(t *testing.T) {
	e := school.New(table.Least(6, 20, 90))
	var c counter = e
	is(t, "Spend", c.Spend(5), 5)
	e.Mul(api.Nat{1, 2, 3}, api.Nat{4, 5})
	is(t, "Muls", c.Muls(), 11)
	is(t, "Enter", c.Enter(), 1)
	is(t, "Enter", e.Enter(), 2)
	is(t, "Leave", c.Leave(), 1)
	is(t, "Now", e.Now(), 1)
	is(t, "Deep", c.Deep(), 2)
	if e.Tune.Meter != *metered(11, 2, 1) {
		t.Error("the Tune's meter counts otherwise", e.Tune.Meter)
	}
	e.Tune.Meter.Spend(4)
	is(t, "Muls", e.Muls(), 15)
	is(t, "Muls of the Tune", e.Tune.Muls(), 15)
	for n := range 60 {
		for m := range 60 {
			is(t, "Route", c.Route(n, m), table.Route(table.Least(6, 20, 90), n, m))
		}
	}
	c.Reset()
	if e.Tune.Meter != (meter.Meter{}) {
		t.Error("Reset has left something")
	}
}

// metered is a meter with so much spent, which has entered and left so often.
func metered(spent, enters, leaves int) *meter.Meter {
	m := new(meter.Meter)
	m.Spend(spent)
	for range enters {
		m.Enter()
	}
	for range leaves {
		m.Leave()
	}
	return m
}

// outer is an engine of a layer above: its Mul hides school's, which is called by its full name.
type outer struct{ *school.Engine }

func (o *outer) Mul(a, b api.Nat) api.Nat {
	o.Enter()
	defer o.Leave()
	return o.Engine.Mul(b, a)
}

func TestEmbedded(t *testing.T) {
	o := &outer{school.New(api.Table{})}
	wantWords(t, o.Mul(api.Nat{1, 2}, api.Nat{3}), api.Nat{3, 6}, "Mul of the outer one")
	is(t, "Deep", o.Deep(), 1)
	is(t, "Muls", o.Muls(), 2)
	wantWords(t, o.Sqr(api.Nat{1, 2}), api.Nat{1, 4, 4}, "Sqr")
	is(t, "Muls", o.Muls(), 5)
	o.Reset()
	wantWords(t, o.Power(api.Nat{2}, 10), api.Nat{1024}, "Power")
	is(t, "Deep: Power goes by school's own Mul", o.Deep(), 0)
}

func TestTwoEngines(t *testing.T) {
	x := table.Least(9, 30, 100)
	d, e := school.New(x), school.New(x)
	d.Mul(make(api.Nat, 3), make(api.Nat, 4))
	is(t, "first", d.Muls(), 12)
	is(t, "second", e.Muls(), 0)
	e.Sqr(make(api.Nat, 4))
	e.Enter()
	is(t, "first", d.Muls(), 12)
	is(t, "first's level", d.Now(), 0)
	is(t, "second", e.Muls(), 10)
	d.Reset()
	is(t, "first", d.Muls(), 0)
	is(t, "second", e.Muls(), 10)
	if d.Tune == e.Tune {
		t.Error("two engines have one Tune")
	}
	d.Base = 50
	is(t, "second's table", e.Base, 9)
}
