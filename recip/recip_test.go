package recip_test

import (
	"fmt"
	"math"
	"math/big"
	"slices"
	"testing"

	"ziggurat/api"
	"ziggurat/divs"
	"ziggurat/limb"
	"ziggurat/mul"
	"ziggurat/recip"
	"ziggurat/table"
)

const (
	half = uint64(1) << 63
	most = ^uint64(0)
)

// source is a row of words that is the same in every run; each fourth or so is at an edge.
type source uint64

func (s *source) next() uint64 {
	*s = *s*6364136223846793005 + 1442695040888963407
	x := uint64(*s)
	x ^= x >> 29
	switch x >> 59 {
	case 0, 1:
		return 0
	case 2, 3:
		return most
	case 4:
		return half
	case 5:
		return x & 3
	case 6:
		return most - x&3
	}
	return x * 0x9e3779b97f4a7c15
}

// row has n words, and none on top that is 0.
func (s *source) row(n int) api.Nat {
	a := make(api.Nat, n)
	for i := range a {
		a[i] = s.next()
	}
	if n > 0 && a[n-1] == 0 {
		a[n-1] = 1
	}
	return a
}

func same(x uint64, n int) api.Nat { return slices.Repeat(api.Nat{x}, n) }

// topped is a with n zero words on top, in new memory.
func topped(a api.Nat, n int) api.Nat { return slices.Concat(a, same(0, n)) }

// under is a with that word on top, in new memory.
func under(a api.Nat, top uint64) api.Nat { return slices.Concat(a, api.Nat{top}) }

// tops are the top words that have 1, 2, 32, 33, 63, 64 binary digits, at their edges.
func tops() []uint64 {
	return []uint64{1, 2, 3, 1 << 31, 1 << 32, 1 << 62, half - 1, half, half + 1, most - 1, most}
}

// rows are rows of n words, n above 0, of all kinds: any, the greatest words, powers of two and those next to them, lone words at either end, and noughts within; none has zero words on top.
func rows(n int) []api.Nat {
	s := source(70 + n)
	lone, sparse, within := make(api.Nat, n), make(api.Nat, n), same(most, n)
	lone[n-1] = 1
	sparse[0], sparse[n-1] = most, half
	clear(within[n/3 : n-n/3])
	within[n-1] = most
	list := []api.Nat{s.row(n), s.row(n), same(most, n), same(1, n), same(half, n), lone, sparse, within}
	list = append(list, plus(lone, 1), plus(under(lone[:n-1], half), 1), under(lone[:n-1], half))
	if n > 1 {
		list = append(list, minus(under(lone[:n-1], half), 1), minus(under(lone[:n-1], 2), 1))
	}
	return list
}

// zeros are ways to write 0.
func zeros() []api.Nat {
	return []api.Nat{nil, {}, {0}, {0, 0}, same(0, 5), same(0, 70), same(0, api.MaxWords)}
}

// wrongCounts are exponents that may not be.
func wrongCounts() []int {
	return []int{-1, -2, -64, math.MinInt32, math.MinInt + 1, math.MinInt, api.MaxCount + 1, api.MaxCount + 64, 1 << 21, math.MaxInt32, 1 << 60, math.MaxInt - 1, math.MaxInt}
}

// exponents are those below, at and above the binary digits of d, twice and three times as many, and such that the first guess is enough, or is not.
func exponents(d api.Nat) []int {
	b := d.Bits()
	var list []int
	for _, n := range []int{
		0, 1, 2, 63, 64, 65, b / 2, b - 65, b - 2, b - 1, b, b + 1, b + 2, b + 58, b + 59, b + 60, b + 61, b + 62, b + 63, b + 64, b + 65,
		b + 111, b + 112, b + 113, b + 127, b + 128, b + 129, b + 200, b + 500, 2*b - 1, 2 * b, 2*b + 1, 3*b - 1, 3 * b, 3*b + 1, 3*b + 77,
	} {
		if n >= 0 && n <= api.MaxCount {
			list = append(list, n)
		}
	}
	slices.Sort(list)
	return slices.Compact(list)
}

// tables have a Recip that is the least, the greatest, and some between, and send products each way; two of them hold the least and the greatest numbers of all.
func tables() []api.Table {
	least, greatest := slices.Repeat([]int{math.MinInt}, 11), slices.Repeat([]int{math.MaxInt}, 11)
	return []api.Table{
		{},
		table.Least(4, 12, 64, 4, 4096),
		table.Least(4, 8192, 16384, 4, 4),
		table.Least(4, 12, 16384, 4, 5),
		table.Least(5, 13, 65, 5, 7, 3, 3, 5, 5, 3, 3),
		table.Least(9, 30, 150, 9, 12),
		table.Least(64, 12, 64, 4, 4),
		table.Least(24, 40, 200, 24, 100),
		table.Least(least...),
		table.Least(greatest...),
		table.Least(math.MinInt, math.MaxInt, math.MinInt, -1, 33),
		table.Least(math.MaxInt, math.MinInt, math.MaxInt, 1, -33),
	}
}

// byEach asks of every table, each in a test of its own.
func byEach(t *testing.T, f func(t *testing.T, x api.Table)) { byAll(t, tables(), f) }

// byFew asks of those tables alone whose products of the greatest lengths are soon made.
func byFew(t *testing.T, f func(t *testing.T, x api.Table)) {
	greatest := table.Least(slices.Repeat([]int{math.MaxInt}, 11)...)
	byAll(t, []api.Table{{}, table.Least(4, 12, 64, 4, 4096), table.Least(32, 100, 1000, 24, 100), greatest}, f)
}

func byAll(t *testing.T, list []api.Table, f func(t *testing.T, x api.Table)) {
	for i, x := range list {
		t.Run(fmt.Sprint(i), func(t *testing.T) {
			t.Parallel()
			f(t, x)
		})
	}
}

// What is asked, reckoned by the library's great numbers.

// great is the number that has these words.
func great(a api.Nat) *big.Int {
	list := make([]byte, 0, 8*len(a))
	for _, w := range slices.Backward(a) {
		for place := 56; place >= 0; place -= 8 {
			list = append(list, byte(w>>place))
		}
	}
	return new(big.Int).SetBytes(list)
}

// wordsOf are the words of a number, without noughts on top.
func wordsOf(x *big.Int) api.Nat {
	n := (x.BitLen() + 63) / 64
	row := make(api.Nat, n)
	list := x.FillBytes(make([]byte, 8*n))
	for i := range list {
		row[n-1-i/8] = row[n-1-i/8]<<8 | uint64(list[i])
	}
	return row
}

// plus is a + x, minus is a - x, x not above a.
func plus(a api.Nat, x int64) api.Nat { return wordsOf(new(big.Int).Add(great(a), big.NewInt(x))) }

func minus(a api.Nat, x int64) api.Nat { return plus(a, -x) }

func product(a, b api.Nat) api.Nat { return wordsOf(new(big.Int).Mul(great(a), great(b))) }

// power is 2 to the n.
func power(n int) api.Nat { return wordsOf(new(big.Int).Lsh(big.NewInt(1), uint(n))) }

// parted are quotient and remainder.
func parted(a, b api.Nat) (q, r api.Nat) {
	x, y := new(big.Int).QuoRem(great(a), great(b), new(big.Int))
	return wordsOf(x), wordsOf(y)
}

// over is 2 to the n over d, rounded down.
func over(n int, d api.Nat) api.Nat {
	v, _ := parted(power(n), d)
	return v
}

// longCost is what Long spends for 2 to the n over d.
func longCost(n int, d api.Nat) int {
	words, m := n/64+1, d.Len()
	if words < m {
		return 0
	}
	return (words - m + 1) * (m + 1)
}

// What is held against what is asked.

func is(t *testing.T, told string, answer, asked int) {
	t.Helper()
	if answer != asked {
		t.Fatalf("%s: %d; asked is %d", told, answer, asked)
	}
}

func words(t *testing.T, told string, answer, asked api.Nat) {
	t.Helper()
	if !slices.Equal(answer, asked) {
		t.Fatalf("%s: %x; asked is %x", told, answer, asked)
	}
}

// fine holds that there is no error.
func fine(t *testing.T, told string, err api.Errno) {
	t.Helper()
	is(t, told+": the error", int(err), int(api.OK))
}

// refused holds an error, and that nothing stands beside it.
func refused(t *testing.T, told string, err, asked api.Errno, beside ...api.Nat) {
	t.Helper()
	is(t, told+": the error", int(err), int(asked))
	for _, a := range beside {
		if len(a) != 0 {
			t.Fatalf("%s: beside the error stands %x", told, a)
		}
	}
}

// checkRecip holds a reciprocal: against the library's, and by v d at most 2 to the n, (v + 1) d above. The level is as it was; by Long Long's cost is spent.
func checkRecip(t *testing.T, e *recip.Engine, d api.Nat, n int) api.Nat {
	t.Helper()
	told := fmt.Sprintf("Recip of %d words, n %d", d.Len(), n)
	spent, now := e.Muls(), e.Now()
	v, err := e.Recip(d, n)
	fine(t, told, err)
	is(t, told+": Now", e.Now(), now)
	if d.Len() < e.Table.Recip {
		is(t, told+": Muls", e.Muls()-spent, longCost(n, d))
	}
	words(t, told, v, over(n, d))
	p, top := mul.New(api.Table{}).Mul(v, d), limb.Shl(limb.One(1), n)
	if limb.Cmp(p, top) > 0 || limb.Cmp(limb.Add(p, d), top) <= 0 {
		t.Fatalf("%s: %x is not the last digit's", told, v)
	}
	return v
}

// refusedRecip holds that there is none.
func refusedRecip(t *testing.T, e *recip.Engine, d api.Nat, n int, asked api.Errno) {
	t.Helper()
	spent, now, deep := e.Muls(), e.Now(), e.Deep()
	v, err := e.Recip(d, n)
	refused(t, fmt.Sprintf("Recip of %d words, n %d", len(d), n), err, asked, v)
	is(t, "Recip: Muls", e.Muls(), spent)
	is(t, "Recip: Now", e.Now(), now)
	is(t, "Recip: Deep", e.Deep(), deep)
}

// checkBy holds a division by a reciprocal, against the library's great numbers, against Long, and by a = q d + r.
func checkBy(t *testing.T, e *recip.Engine, a, d, v api.Nat, n int) {
	t.Helper()
	told := fmt.Sprintf("By of %d and %d words, n %d", a.Len(), d.Len(), n)
	now := e.Now()
	q, r, err := e.By(a, d, v, n)
	fine(t, told, err)
	is(t, told+": Now", e.Now(), now)
	askedQ, askedR := parted(a, d)
	words(t, told+": the quotient", q, askedQ)
	words(t, told+": the remainder", r, askedR)
	askedQ, askedR, _ = divs.New(api.Table{}).Long(a, d)
	words(t, told+": the quotient", q, askedQ)
	words(t, told+": the remainder", r, askedR)
	if limb.Cmp(r, d) >= 0 {
		t.Fatalf("%s: the remainder %x is not below %x", told, r, d)
	}
	words(t, told+": q d + r", limb.Add(mul.New(api.Table{}).Mul(q, d), r), limb.Norm(a))
}

// refusedBy holds that there is none.
func refusedBy(t *testing.T, e *recip.Engine, a, d, v api.Nat, n int, asked api.Errno) {
	t.Helper()
	now := e.Now()
	q, r, err := e.By(a, d, v, n)
	refused(t, fmt.Sprintf("By of %d and %d words, v of %d, n %d", len(a), len(d), len(v), n), err, asked, q, r)
	is(t, "By: Now", e.Now(), now)
}

// P14.1: New, and what is promoted

func TestNew(t *testing.T) {
	for _, x := range tables() {
		e := recip.New(x)
		clamped := table.Clamp(x)
		if e.Table != clamped || e.Engine.Table != divs.New(x).Table {
			t.Errorf("%v: %v", x, e.Table)
		}
		entries := []int{e.Base, e.Table.Toom, e.Ntt, e.Div, e.Table.Recip, e.Lehmer, e.Radix, e.Poly, e.Kron, e.Series, e.Tree}
		asked := []int{clamped.Base, clamped.Toom, clamped.Ntt, clamped.Div, clamped.Recip, clamped.Lehmer, clamped.Radix, clamped.Poly, clamped.Kron, clamped.Series, clamped.Tree}
		if !slices.Equal(entries, asked) {
			t.Errorf("%v: %v", x, entries)
		}
		is(t, "the entry below", e.Engine.Recip, clamped.Recip)
		is(t, "Muls", e.Muls(), 0)
		is(t, "Now", e.Now(), 0)
		is(t, "Deep", e.Deep(), 0)
		if other := recip.New(x); other == e || other.Engine == e.Engine || other.Tune == e.Tune {
			t.Error("two engines have one meter")
		}
	}
}

// Two engines spend each for itself.
func TestTwoMeters(t *testing.T) {
	e, other := recip.New(table.Least(4, 12, 64, 4, 9)), recip.New(api.Table{})
	e.Recip(same(3, 4), 64*8)
	other.Enter()
	is(t, "Muls", e.Muls(), 30)
	is(t, "Muls of the other", other.Muls(), 0)
	is(t, "Now", e.Now(), 0)
}

// The engines below can be asked through this one, and all have one meter; mul's By is to be had by its full name.
func TestPromoted(t *testing.T) {
	e := recip.New(table.Least(4))
	s := source(6)
	a, b := s.row(9), s.row(9)
	ab, aa := product(a, b), product(a, a)
	hand := e.Engine.Engine.Engine
	for _, c := range []struct {
		name  string
		ask   func() (api.Nat, bool)
		want  api.Nat
		spent int
	}{
		{"Mul", func() (api.Nat, bool) { return e.Mul(a, b), true }, ab, table.Cost(e.Table, 9, 9)},
		{"Sqr", func() (api.Nat, bool) { return e.Sqr(a), true }, aa, table.Square(e.Table, 9)},
		{"Product", func() (api.Nat, bool) { return e.Product(a, b), true }, ab, table.Cost(e.Table, 9, 9)},
		{"Product of three", func() (api.Nat, bool) { return e.Product(api.Nat{2}, api.Nat{3}, api.Nat{7}), true }, api.Nat{42}, 2},
		{"By School", func() (api.Nat, bool) { return e.Engine.By(table.School, a, b) }, ab, 81},
		{"By Ntt", func() (api.Nat, bool) { return e.Engine.Engine.By(table.Ntt, a, b) }, ab, table.Transform(9, 9, 3)},
		{"Toom", func() (api.Nat, bool) { return e.Toom(a, b, hand.Mul) }, ab, 9 + 3*16 + 9},
		{"ToomSqr", func() (api.Nat, bool) { return e.ToomSqr(a, hand.Sqr) }, aa, 6 + 3*10 + 6},
		{"Kara", func() (api.Nat, bool) { return e.Kara(a, b, hand.Mul) }, ab, 25 + 16 + 36},
		{"KaraSqr", func() (api.Nat, bool) { return e.KaraSqr(a, hand.Sqr) }, aa, 15 + 10 + 21},
		{"Both", func() (api.Nat, bool) { return e.Both(a, b), true }, ab, table.Cost(e.Table, 9, 9)},
		{"Mul by hand", func() (api.Nat, bool) { return hand.Mul(a, b), true }, ab, 81},
		{"Power", func() (api.Nat, bool) { return e.Power(api.Nat{3}, 5), true }, api.Nat{243}, 5},
	} {
		e.Reset()
		got, ok := c.ask()
		if !ok {
			t.Fatalf("%s: false", c.name)
		}
		words(t, c.name, got, c.want)
		is(t, c.name+": Muls", e.Muls(), c.spent)
		is(t, c.name+": Now", e.Now(), 0)
	}
	if c, ok := e.Engine.By(table.Toom, a, api.Nat{5}); ok || len(c) != 0 {
		t.Errorf("mul's By: %v, %v", c, ok)
	}
}

// Long division is promoted, too.
func TestPromotedDivision(t *testing.T) {
	e := recip.New(table.Least(4))
	s := source(7)
	a, b := s.row(9), s.row(4)
	askedQ, askedR := parted(a, b)
	q, r, err := e.Long(a, b)
	fine(t, "Long", err)
	words(t, "the quotient", q, askedQ)
	words(t, "the remainder", r, askedR)
	is(t, "Muls", e.Muls(), 30)
	q, r, err = e.Long(a, nil)
	refused(t, "Long", err, api.ErrZero, q, r)
	list, err := e.LongMod(api.Nat{100}, api.Nat{7}, api.Nat{200}, api.Nat{10})
	fine(t, "LongMod", err)
	is(t, "how many", len(list), 3)
	for i, asked := range []api.Nat{{2}, {100}, nil} {
		words(t, "LongMod", list[i], asked)
	}
	is(t, "Muls", e.Muls(), 36)
	list, err = e.LongMod(api.Nat{100}, api.Nat{7}, nil)
	is(t, "LongMod: how many", len(list), 0)
	refused(t, "LongMod", err, api.ErrZero)
}

// What this engine spends is to be seen through the engines below, and what they spend through this one.
func TestOneMeter(t *testing.T) {
	e := recip.New(table.Least(4))
	e.Recip(same(5, 3), 64*6)
	is(t, "Muls", e.Muls(), 20)
	is(t, "Muls of divs", e.Engine.Muls(), 20)
	is(t, "Muls of mul", e.Engine.Engine.Muls(), 20)
	is(t, "Muls of the tune", e.Tune.Muls(), 20)
	e.Engine.Mul(same(9, 4), same(5, 4))
	is(t, "Muls", e.Muls(), 37)
	is(t, "Deep", e.Deep(), 1)
	is(t, "Spend", e.Spend(5), 42)
	is(t, "Route", e.Route(9, 9), table.Kara)
	is(t, "Route", e.Route(12, 12), table.Toom)
	is(t, "Enter", e.Enter(), 1)
	is(t, "Enter", e.Enter(), 2)
	is(t, "Now", e.Now(), 2)
	is(t, "Leave", e.Leave(), 1)
	is(t, "Deep", e.Deep(), 2)
	e.Reset()
	is(t, "Muls", e.Muls(), 0)
	is(t, "Now", e.Now(), 0)
	is(t, "Deep", e.Deep(), 0)
}

// P14.1: Recip

func TestExample(t *testing.T) {
	byEach(t, func(t *testing.T, x api.Table) {
		e := recip.New(x)
		v, err := e.Recip(api.Nat{3}, 4)
		fine(t, "Recip(3, 4)", err)
		words(t, "Recip(3, 4)", v, api.Nat{5})
	})
}

// Reciprocals that are told by numbers, at tables of both ways.
func TestRecipByHand(t *testing.T) {
	byEach(t, func(t *testing.T, x api.Table) {
		for _, c := range []struct {
			d     api.Nat
			n     int
			asked api.Nat
		}{
			{api.Nat{1}, 0, api.Nat{1}},
			{api.Nat{1}, 1, api.Nat{2}},
			{api.Nat{1}, 64, api.Nat{0, 1}},
			{api.Nat{2}, 0, nil},
			{api.Nat{2}, 1, api.Nat{1}},
			{api.Nat{3}, 0, nil},
			{api.Nat{3}, 1, nil},
			{api.Nat{3}, 2, api.Nat{1}},
			{api.Nat{3}, 64, api.Nat{most / 3}},
			{api.Nat{most}, 63, nil},
			{api.Nat{most}, 64, api.Nat{1}},
			{api.Nat{most}, 128, api.Nat{1, 1}},
			{api.Nat{most, most, most, most}, 256, api.Nat{1}},
			{api.Nat{most, most, most, most}, 512, api.Nat{1, 0, 0, 0, 1}},
			{api.Nat{most, most, most, most}, 511, api.Nat{0, 0, 0, half}},
			{api.Nat{0, 0, 0, 1}, 191, nil},
			{api.Nat{0, 0, 0, 1}, 192, api.Nat{1}},
			{api.Nat{1, 0, 0, 1}, 192, nil},
			{api.Nat{1, 0, 0, 1}, 193, api.Nat{1}},
			{api.Nat{1, 0, 0, 1}, 384, api.Nat{most, most, most}},
			{api.Nat{0, 0, 0, half}, 512, api.Nat{0, 0, 0, 0, 2}},
		} {
			e := recip.New(x)
			for more := range 3 {
				v, err := e.Recip(topped(c.d, more), c.n)
				fine(t, fmt.Sprint(c.d, c.n), err)
				words(t, fmt.Sprint(c.d, c.n), v, c.asked)
			}
		}
	})
}

// By 0, however it is written, whatever n is: ErrZero comes first.
func TestRecipOfZero(t *testing.T) {
	byEach(t, func(t *testing.T, x api.Table) {
		e := recip.New(x)
		e.Spend(3)
		e.Enter()
		for _, zero := range zeros() {
			for _, n := range append(wrongCounts(), 0, 1, 64, 1000, api.MaxCount) {
				refusedRecip(t, e, zero, n, api.ErrZero)
			}
		}
		is(t, "Muls", e.Muls(), 3)
		is(t, "Now", e.Now(), 1)
	})
}

// An n that may not be, at divisors of all lengths.
func TestRecipByWrongCounts(t *testing.T) {
	byEach(t, func(t *testing.T, x api.Table) {
		e := recip.New(x)
		s := source(8)
		e.Enter()
		for _, n := range wrongCounts() {
			for _, d := range []api.Nat{{1}, {2}, {most}, s.row(2), s.row(4), s.row(5), s.row(40), s.row(300), s.row(api.MaxWords), topped(s.row(3), 2)} {
				refusedRecip(t, e, d, n, api.ErrArg)
			}
		}
		is(t, "Now", e.Now(), 1)
	})
}

// Behind an error the engine is as it was.
func TestBehindAnError(t *testing.T) {
	e := recip.New(api.Table{})
	before := e.Table
	e.Recip(nil, 5)
	e.Recip(api.Nat{5}, -1)
	e.By(api.Nat{5}, nil, nil, 9)
	e.By(api.Nat{5}, api.Nat{5}, nil, 9)
	if e.Table != before {
		t.Error(e.Table)
	}
	v := checkRecip(t, e, same(most, 9), 1200)
	checkBy(t, e, same(most, 12), same(most, 9), v, 1200)
}

// Of 1 it is 2 to the n.
func TestRecipOfOne(t *testing.T) {
	byEach(t, func(t *testing.T, x api.Table) {
		e := recip.New(x)
		for _, n := range []int{0, 1, 2, 62, 63, 64, 65, 127, 128, 1000, 4096, api.MaxCount - 1, api.MaxCount} {
			for _, d := range []api.Nat{{1}, {1, 0}, topped(api.Nat{1}, 9), topped(api.Nat{1}, 5000)} {
				v, err := e.Recip(d, n)
				fine(t, "Recip", err)
				words(t, "Recip", v, power(n))
			}
		}
	})
}

// Of powers of two, and of the numbers next to them, each number of digits to some hundreds.
func TestPowersOfTwo(t *testing.T) {
	byEach(t, func(t *testing.T, x api.Table) {
		e := recip.New(x)
		for b := range 700 {
			d := power(b)
			for _, n := range []int{b - 1, b, b + 1, b + 5, b + 60, b + 61, b + 64, b + 65, b + 200, 2*b + 1, 3*b + 3} {
				if n < 0 {
					continue
				}
				words(t, "of a power of two", checkRecip(t, e, d, n), over(n, d))
				checkRecip(t, e, plus(d, 1), n)
				if b > 0 {
					checkRecip(t, e, minus(d, 1), n)
				}
			}
		}
	})
}

// Rows of all kinds, from one word to some dozens, by all exponents.
func TestAllKinds(t *testing.T) {
	byEach(t, func(t *testing.T, x api.Table) {
		e := recip.New(x)
		for m := 1; m < 36; m += 1 + m/8 {
			for _, d := range rows(m) {
				for _, n := range exponents(d) {
					checkRecip(t, e, d, n)
				}
			}
		}
	})
}

// Divisors of each top word, above rows of all kinds.
func TestTopWords(t *testing.T) {
	byEach(t, func(t *testing.T, x api.Table) {
		e := recip.New(x)
		for _, m := range []int{1, 3, 4, 6, 11} {
			for _, low := range rows(m) {
				for _, top := range tops() {
					d := under(low, top)
					for _, n := range []int{d.Bits() - 1, d.Bits(), d.Bits() + 61, d.Bits() + 190, 2 * d.Bits(), 3*d.Bits() + 1} {
						checkRecip(t, e, d, n)
					}
				}
			}
		}
	})
}

// Each exponent from 0 on, at divisors of some words.
func TestAllExponents(t *testing.T) {
	byEach(t, func(t *testing.T, x api.Table) {
		e := recip.New(x)
		s := source(9)
		for _, m := range []int{1, 2, 4, 5, 8} {
			d, all := s.row(m), same(most, m)
			for n := range 900 {
				checkRecip(t, e, d, n)
				checkRecip(t, e, all, n)
			}
		}
	})
}

// Divisors of some hundreds of words, around where the tables' Recip and their routes change.
func TestHundreds(t *testing.T) {
	byEach(t, func(t *testing.T, x api.Table) {
		e := recip.New(x)
		for _, m := range []int{64, 99, 100, 101, 128, 255, 256, 257, 400, 700} {
			for _, d := range rows(m)[1:5] {
				b := d.Bits()
				for _, n := range []int{b - 1, b, b + 64, b + 1000, 2*b - 1, 2 * b, 3*b + 5} {
					checkRecip(t, e, d, n)
				}
			}
		}
	})
}

// The greatest exponents, and the greatest lengths.
func TestGreatest(t *testing.T) {
	byFew(t, func(t *testing.T, x api.Table) {
		e := recip.New(x)
		s := source(10)
		for _, m := range []int{1, 3, 4, 50, 4095, 4096, 8192, 16000, api.MaxWords - 1, api.MaxWords} {
			d := s.row(m)
			checkRecip(t, e, d, api.MaxCount)
			checkRecip(t, e, topped(d, 2), api.MaxCount-1)
		}
		for _, d := range []api.Nat{same(most, 4096), power(64*8192 - 1), plus(power(64*8191), 1), same(most, api.MaxWords), power(api.MaxCount - 1)} {
			checkRecip(t, e, d, api.MaxCount)
		}
		for _, n := range []int{0, 1, 64, api.MaxCount - 2} {
			words(t, "below the divisor", checkRecip(t, e, same(most, api.MaxWords), n), nil)
		}
	})
}

// Zero words on top are nothing: they change neither the answer nor the way that is gone.
func TestZeroWordsOnTop(t *testing.T) {
	byEach(t, func(t *testing.T, x api.Table) {
		e := recip.New(x)
		s := source(11)
		for _, m := range []int{1, 2, 3, 4, 5, 7, 12, 33, 100} {
			d := s.row(m)
			for _, n := range []int{64*m - 1, 64*m + 100, 128 * m, 200*m + 3} {
				e.Reset()
				asked := checkRecip(t, e, d, n)
				spent := e.Muls()
				for _, more := range []int{1, 2, 3, 70, 5000} {
					e.Reset()
					words(t, "Recip", checkRecip(t, e, topped(d, more), n), asked)
					is(t, "Muls", e.Muls(), spent)
				}
			}
		}
	})
}

// Below Recip words Long goes, and spends what it does; from Recip words on Newton's steps go.
func TestWays(t *testing.T) {
	for _, least := range []int{4, 5, 6, 12, 33, 100, 400} {
		e := recip.New(table.Least(4, 12, 64, 4, least))
		for m := 1; m < least+4; m++ {
			for _, d := range []api.Nat{same(most, m), same(half, m), same(1, m)} {
				for _, n := range []int{64*m + 300, 128 * m, 128*m + 64, 192 * m} {
					e.Reset()
					e.Recip(d, n)
					if byLong := e.Muls() == longCost(n, d); byLong != (m < least) {
						t.Fatalf("Recip %d: %d words, n %d: by Long: %v", least, m, n, byLong)
					}
				}
			}
		}
	}
}

// Each step doubles what is right: all steps together cost no more than some products of the greatest length, where Long costs its square.
func TestDoubling(t *testing.T) {
	s := source(12)
	for _, m := range []int{256, 512, 1024, 2048, 4096, 8192} {
		e := recip.New(table.Least(32, 100, 200, 4, 4))
		d, n := s.row(m), 128*m
		e.Recip(d, n)
		long := longCost(n, d)
		if product := table.Cost(e.Table, m+1, m+1); e.Muls() > 4*product || m >= 1024 && e.Muls() > long {
			t.Errorf("%d words: %d are spent, a product's are %d, Long's are %d", m, e.Muls(), product, long)
		}
	}
}

// In two pieces a product of half the length costs a third. A step takes two by the piece that is right, and one more: with its forerunners that is one product and a half, and one more holds the last digit.
func TestStepsByThirds(t *testing.T) {
	s := source(27)
	for _, m := range []int{64, 100, 128, 256, 300, 512, 700, 1024, 2048} {
		e := recip.New(table.Least(4, 8192, 16384, 4, 4))
		d, n := s.row(m), 128*m
		product := table.Cost(e.Table, m+1, m+1)
		v, _ := e.Recip(d, n)
		if 20*e.Muls() > 51*product {
			t.Errorf("Recip: %d words: %d are spent, a product's are %d", m, e.Muls(), product)
		}
		e.Reset()
		e.By(s.row(2*m), d, v, n)
		if 20*e.Muls() > 63*product {
			t.Errorf("By: %d words: %d are spent, a product's are %d", m, e.Muls(), product)
		}
		e.Reset()
		e.By(s.row(m+2), d, v, n)
		if 20*e.Muls() > 21*product+200*m {
			t.Errorf("By, a short quotient: %d words: %d are spent, a product's are %d", m, e.Muls(), product)
		}
	}
}

// What a table costs at worst, by the routes that are least good for it: few times the square of the length, and few levels.
func TestSpentAtMost(t *testing.T) {
	byEach(t, func(t *testing.T, x api.Table) {
		s := source(13)
		for n := 1; n < 260; n += 1 + n/9 {
			for m := 1; m <= n; m += 1 + m/5 {
				e := recip.New(x)
				a, d := s.row(n), s.row(m)
				v, _ := e.Recip(d, 64*n)
				e.By(a, d, v, 64*n)
				levels := 4*api.Nat{uint64(n)}.Bits() + 8
				if e.Muls() > 16*n*n+64 || e.Deep() > levels || e.Now() != 0 {
					t.Fatalf("%d by %d words: %d are spent, level %d", n, m, e.Muls(), e.Deep())
				}
			}
		}
	})
}

// A short quotient of a long divisor takes no more steps than the quotient asks for.
func TestShortQuotient(t *testing.T) {
	e := recip.New(table.Least(4, 12, 64, 4, 4))
	d := same(most, api.MaxWords)
	for _, words := range []int{1, 2, 4} {
		e.Reset()
		checkRecip(t, e, d[:api.MaxWords-words], api.MaxCount)
		if e.Muls() > 3*(words+1)*api.MaxWords {
			t.Errorf("a quotient of %d words: %d are spent", words, e.Muls())
		}
	}
}

// P14.2: By

func TestByByHand(t *testing.T) {
	byEach(t, func(t *testing.T, x api.Table) {
		e := recip.New(x)
		for _, c := range []struct {
			a, d, v api.Nat
			n       int
			q, r    api.Nat
		}{
			{nil, api.Nat{3}, api.Nat{5}, 4, nil, nil},
			{api.Nat{1}, api.Nat{3}, api.Nat{5}, 4, nil, api.Nat{1}},
			{api.Nat{3}, api.Nat{3}, api.Nat{5}, 4, api.Nat{1}, nil},
			{api.Nat{15}, api.Nat{3}, api.Nat{5}, 4, api.Nat{5}, nil},
			{api.Nat{16}, api.Nat{3}, api.Nat{5}, 4, api.Nat{5}, api.Nat{1}},
			{nil, api.Nat{1}, api.Nat{1}, 0, nil, nil},
			{api.Nat{1}, api.Nat{1}, api.Nat{1}, 0, api.Nat{1}, nil},
			{api.Nat{1}, api.Nat{7}, nil, 0, nil, api.Nat{1}},
			{api.Nat{4}, api.Nat{7}, nil, 2, nil, api.Nat{4}},
			{api.Nat{4}, api.Nat{4}, api.Nat{1}, 2, api.Nat{1}, nil},
			{api.Nat{0, 1}, api.Nat{most}, api.Nat{1}, 64, api.Nat{1}, api.Nat{1}},
			{api.Nat{most, most}, api.Nat{most}, api.Nat{1, 1}, 128, api.Nat{1, 1}, nil},
			{api.Nat{most - 1, most}, api.Nat{most}, api.Nat{1, 1}, 128, api.Nat{0, 1}, api.Nat{most - 1}},
			{api.Nat{5, 6, 7, 8}, api.Nat{0, 0, 0, 1}, api.Nat{0, 1}, 256, api.Nat{8}, api.Nat{5, 6, 7}},
		} {
			q, r, err := e.By(c.a, c.d, c.v, c.n)
			told := fmt.Sprintf("%v by %v", c.a, c.d)
			fine(t, told, err)
			words(t, told, q, c.q)
			words(t, told, r, c.r)
		}
		refusedBy(t, e, api.Nat{17}, api.Nat{3}, api.Nat{5}, 4, api.ErrArg)
		refusedBy(t, e, api.Nat{2}, api.Nat{1}, api.Nat{1}, 0, api.ErrArg)
		refusedBy(t, e, api.Nat{5}, api.Nat{7}, nil, 2, api.ErrArg)
		refusedBy(t, e, api.Nat{16}, api.Nat{3}, api.Nat{6}, 4, api.ErrArg)
		refusedBy(t, e, api.Nat{16}, api.Nat{3}, api.Nat{4}, 4, api.ErrArg)
	})
}

// dividends are numbers up to 2 to the n: the least, the greatest, those next to d, multiples of d and those next to them, and any.
func dividends(s *source, d, v api.Nat, n int) []api.Nat {
	top := power(n)
	list := []api.Nat{nil, {1}, minus(d, 1), d, plus(d, 1), minus(top, 1), top, product(v, d), plus(product(v, d), 1)}
	for range 2 {
		k := s.row(n/64 + 1)
		k, _ = parted(product(k, plus(v, 1)), power(64*(n/64+1)))
		list = append(list, product(k, d), plus(product(k, d), 1))
		if !k.Zero() {
			list = append(list, minus(product(k, d), 1))
		}
		list = append(list, limb.Low(s.row(n/64+1), n), limb.Low(s.row(n/128+1), n))
	}
	if !v.Zero() {
		list = append(list, minus(product(v, d), 1))
	}
	return slices.DeleteFunc(list, func(a api.Nat) bool { return limb.Cmp(a, top) > 0 })
}

// Dividends of all kinds, at divisors of all kinds and all exponents.
func TestByAllKinds(t *testing.T) {
	byEach(t, func(t *testing.T, x api.Table) {
		e := recip.New(x)
		s := source(14)
		for _, m := range []int{1, 2, 3, 4, 5, 8, 13} {
			for _, d := range rows(m) {
				for _, n := range exponents(d) {
					v := over(n, d)
					for _, a := range dividends(&s, d, v, n) {
						checkBy(t, e, a, d, v, n)
					}
				}
			}
		}
	})
}

// Small numbers, all of them.
func TestBySmallNumbers(t *testing.T) {
	e := recip.New(api.Table{})
	for n := range 7 {
		for d := uint64(1); d < 70; d++ {
			v := uint64(1) << n / d
			for a := range uint64(70) {
				for other := range uint64(70) {
					q, r, err := e.By(api.Nat{a}, api.Nat{d}, api.Nat{other}, n)
					if a > 1<<n || other != v {
						refused(t, "By", err, api.ErrArg, q, r)
						continue
					}
					fine(t, "By", err)
					words(t, "the quotient", q, limb.One(a/d))
					words(t, "the remainder", r, limb.One(a%d))
				}
			}
		}
	}
}

// Each exponent, at divisors of some words.
func TestByAllExponents(t *testing.T) {
	byEach(t, func(t *testing.T, x api.Table) {
		e := recip.New(x)
		s := source(15)
		for _, m := range []int{1, 2, 4, 6} {
			d, all := s.row(m), same(most, m)
			for n := range 700 {
				for _, a := range []api.Nat{power(n), minus(power(n), 1), limb.Low(s.row(n/64+1), n)} {
					checkBy(t, e, a, d, over(n, d), n)
					checkBy(t, e, a, all, over(n, all), n)
				}
			}
		}
	})
}

// Of some hundreds of words, with the reciprocal that Recip itself answers.
func TestByHundreds(t *testing.T) {
	byEach(t, func(t *testing.T, x api.Table) {
		e := recip.New(x)
		s := source(16)
		for _, m := range []int{40, 100, 257} {
			for _, d := range rows(m)[1:4] {
				b := d.Bits()
				for _, n := range []int{b - 1, b, b + 640, 2 * b, 3*b + 5} {
					v := checkRecip(t, e, d, n)
					list := dividends(&s, d, v, n)
					for _, a := range list[max(0, len(list)-7):] {
						checkBy(t, e, a, d, v, n)
					}
				}
			}
		}
	})
}

// The greatest exponent, and the greatest lengths.
func TestByGreatest(t *testing.T) {
	byFew(t, func(t *testing.T, x api.Table) {
		e := recip.New(x)
		s := source(17)
		for _, m := range []int{1, 50, 8192, api.MaxWords} {
			d := s.row(m)
			v := over(api.MaxCount, d)
			for _, a := range []api.Nat{d, s.row(api.MaxWords), power(api.MaxCount), same(most, api.MaxWords), s.row(9)} {
				checkBy(t, e, a, d, v, api.MaxCount)
			}
			refusedBy(t, e, plus(power(api.MaxCount), 1), d, v, api.MaxCount, api.ErrArg)
			refusedBy(t, e, d, d, plus(v, 1), api.MaxCount, api.ErrArg)
			refusedBy(t, e, d, d, minus(v, 1), api.MaxCount, api.ErrArg)
			refusedBy(t, e, d, d, same(most, api.MaxWords), api.MaxCount, api.ErrArg)
		}
	})
}

// Above 2 to the n nothing is divided, however little above.
func TestByOfTooMuch(t *testing.T) {
	byEach(t, func(t *testing.T, x api.Table) {
		e := recip.New(x)
		for _, m := range []int{1, 2, 4, 7, 20} {
			for _, d := range rows(m) {
				for _, n := range exponents(d) {
					v, top := over(n, d), power(n)
					checkBy(t, e, top, d, v, n)
					for _, a := range []api.Nat{plus(top, 1), power(n + 1), same(most, n/64+1), under(top, 1), same(most, n/64+9)} {
						refusedBy(t, e, a, d, v, n, api.ErrArg)
						refusedBy(t, e, topped(a, 3), d, v, n, api.ErrArg)
					}
				}
			}
		}
	})
}

// With any other number for the reciprocal: the next ones, 0, those of other exponents and other divisors, and far greater ones.
func TestByAnotherReciprocal(t *testing.T) {
	byEach(t, func(t *testing.T, x api.Table) {
		e := recip.New(x)
		s := source(18)
		for _, m := range []int{1, 2, 4, 7, 20} {
			for _, d := range rows(m) {
				for _, n := range exponents(d) {
					v := over(n, d)
					others := []api.Nat{nil, {0, 0}, {1}, plus(v, 1), plus(v, 2), under(v, 1), same(most, n/64+5), over(n+1, d), over(n/2, d), over(n, plus(d, 1)), power(n), d, s.row(3)}
					if !v.Zero() {
						others = append(others, minus(v, 1))
					}
					for _, other := range others {
						if limb.Cmp(other, v) == 0 {
							continue
						}
						for _, a := range []api.Nat{nil, {1}, power(n)} {
							refusedBy(t, e, a, d, other, n, api.ErrArg)
						}
					}
				}
			}
		}
	})
}

// By 0, however it is written: ErrZero comes first, whatever else is wrong.
func TestByZero(t *testing.T) {
	byEach(t, func(t *testing.T, x api.Table) {
		e := recip.New(x)
		s := source(19)
		e.Enter()
		for _, zero := range zeros() {
			for _, n := range append(wrongCounts(), 0, 1, 64, api.MaxCount) {
				for _, a := range []api.Nat{nil, {0}, {1}, {2}, s.row(5), s.row(300)} {
					for _, v := range []api.Nat{nil, {0}, {1}, s.row(9)} {
						refusedBy(t, e, a, zero, v, n, api.ErrZero)
					}
				}
			}
		}
		is(t, "Muls", e.Muls(), 0)
		is(t, "Now", e.Now(), 1)
		is(t, "Deep", e.Deep(), 1)
	})
}

// An n that may not be, also where a and v are 0.
func TestByWrongCounts(t *testing.T) {
	byEach(t, func(t *testing.T, x api.Table) {
		e := recip.New(x)
		s := source(20)
		e.Enter()
		for _, d := range []api.Nat{{1}, {2}, {most}, s.row(4), s.row(40)} {
			for _, v := range []api.Nat{nil, {0}, {1}, over(0, d), over(api.MaxCount, d), power(1)} {
				for _, a := range []api.Nat{nil, {0}, {1}, d, s.row(3)} {
					for _, n := range wrongCounts() {
						refusedBy(t, e, a, d, v, n, api.ErrArg)
					}
				}
			}
		}
		refusedBy(t, e, api.Nat{1}, api.Nat{3}, over(api.MaxCount+1, api.Nat{3}), api.MaxCount+1, api.ErrArg)
		is(t, "Now", e.Now(), 1)
	})
}

// Zero words on top are nothing, on any of the three.
func TestByZeroWordsOnTop(t *testing.T) {
	byEach(t, func(t *testing.T, x api.Table) {
		e := recip.New(x)
		s := source(21)
		for _, m := range []int{1, 2, 4, 5, 12, 40} {
			d := s.row(m)
			for _, n := range []int{64*m - 65, 64 * m, 64*m + 99, 128*m + 1} {
				if n < 0 {
					continue
				}
				v := over(n, d)
				for _, a := range []api.Nat{nil, {1}, power(n), limb.Low(s.row(n/64+1), n)} {
					e.Reset()
					checkBy(t, e, a, d, v, n)
					spent := e.Muls()
					for _, more := range [][3]int{{1, 0, 0}, {0, 1, 0}, {0, 0, 1}, {2, 3, 4}, {90, 70, 80}} {
						e.Reset()
						checkBy(t, e, topped(a, more[0]), topped(d, more[1]), topped(v, more[2]), n)
						is(t, "Muls", e.Muls(), spent)
						refusedBy(t, e, topped(a, more[0]), topped(d, more[1]), topped(plus(v, 1), more[2]), n, api.ErrArg)
					}
				}
			}
		}
	})
}

// Beyond the limits nothing is promised but that the calls end.
func TestBeyondTheLimits(t *testing.T) {
	e := recip.New(api.Table{})
	s := source(28)
	for _, m := range []int{api.MaxWords + 1, api.MaxWords + 5, 3 * api.MaxWords} {
		for _, d := range []api.Nat{s.row(m), same(most, m), power(64*m - 64)} {
			for _, n := range []int{-1, 0, 64, api.MaxCount, api.MaxCount + 1, 64 * m} {
				e.Recip(d, n)
				for _, a := range []api.Nat{nil, d, power(api.MaxCount)} {
					e.By(a, d, nil, n)
					e.By(a, d, api.Nat{1}, n)
					e.By(d, a, d, n)
				}
			}
		}
	}
	is(t, "Now", e.Now(), 0)
}

// T2, T6: tables and ways

// Every two tables' answers are one.
func TestTablesAgree(t *testing.T) {
	s := source(22)
	var engines []*recip.Engine
	for _, x := range tables() {
		engines = append(engines, recip.New(x))
	}
	for m := 1; m < 200; m += 1 + m/6 {
		for _, n := range []int{64*m - 1, 64*m + 60, 64*m + 61, 100 * m, 128 * m, 192*m + 5} {
			d, a := s.row(m), limb.Low(s.row(n/64+1), n)
			v, _ := engines[0].Recip(d, n)
			q, r, _ := engines[0].By(a, d, v, n)
			for _, e := range engines[1:] {
				otherV, err := e.Recip(d, n)
				fine(t, "Recip", err)
				words(t, "the reciprocal", otherV, v)
				otherQ, otherR, err := e.By(a, d, otherV, n)
				fine(t, "By", err)
				words(t, "the quotient", otherQ, q)
				words(t, "the remainder", otherR, r)
			}
		}
	}
}

// R4: memory

// walled is a row with a wall behind its length, and the memory of both.
func walled(a api.Nat) (row, memory api.Nat) {
	memory = slices.Concat(a, same(0x5a5a, 8))
	return memory[:len(a)], memory
}

// What is handed in is left, and what lies behind its length, too; that is not read, either.
func TestHandedInIsLeft(t *testing.T) {
	byEach(t, func(t *testing.T, x api.Table) {
		e := recip.New(x)
		s := source(23)
		for _, m := range []int{1, 2, 3, 4, 5, 9, 33} {
			for _, n := range []int{0, 64*m - 1, 64*m + 70, 64*m + 190, 128*m + 3} {
				for more := range 3 {
					checkLeft(t, e, s.row(m), limb.Low(s.row(n/64+1), n), n, more)
				}
			}
		}
	})
}

// checkLeft asks all calls, of numbers with so many zero words more.
func checkLeft(t *testing.T, e *recip.Engine, d, a api.Nat, n, more int) {
	t.Helper()
	v, behindV := walled(topped(over(n, d), more))
	wrong, behindWrong := walled(topped(plus(over(n, d), 1), more))
	d, behindD := walled(topped(d, more))
	a, behindA := walled(topped(a, more))
	zero, behindZero := walled(same(0, more))
	memory := []api.Nat{behindV, behindWrong, behindD, behindA, behindZero}
	var kept []api.Nat
	for _, row := range memory {
		kept = append(kept, slices.Clone(row))
	}
	checkRecip(t, e, d, n)
	checkBy(t, e, a, d, v, n)
	refusedRecip(t, e, zero, n, api.ErrZero)
	refusedRecip(t, e, d, -1, api.ErrArg)
	refusedBy(t, e, a, zero, v, n, api.ErrZero)
	refusedBy(t, e, a, d, wrong, n, api.ErrArg)
	refusedBy(t, e, under(power(n), 1), d, v, n, api.ErrArg)
	refusedBy(t, e, a, d, v, -1, api.ErrArg)
	for i, row := range memory {
		words(t, "what was handed in", row, kept[i])
	}
}

// One row may stand for several.
func TestOneRowForSeveral(t *testing.T) {
	byEach(t, func(t *testing.T, x api.Table) {
		e := recip.New(x)
		for _, m := range []int{1, 2, 4, 9} {
			d := under(same(0, m-1), 1<<32)
			n := 2 * (d.Bits() - 1)
			kept := slices.Clone(d)
			words(t, "the root is its own reciprocal", checkRecip(t, e, d, n), d)
			checkBy(t, e, d, d, d, n)
			words(t, "d", d, kept)
		}
	})
}

// overwrite fills a row and its spare room.
func overwrite(a api.Nat, w uint64) {
	a = a[:cap(a)]
	for i := range a {
		a[i] = w
	}
}

// apart says that no two of the rows share memory, spare room too: what is written into one is seen in no other.
func apart(t *testing.T, told string, list ...api.Nat) {
	t.Helper()
	for i, a := range list {
		overwrite(a, uint64(1000+i))
	}
	for i, a := range list {
		for _, w := range a[:cap(a)] {
			if w != uint64(1000+i) {
				t.Fatalf("%s: two rows share memory", told)
			}
		}
	}
}

// Each list handed out is new memory: it shares none with another, nor with what was handed in.
func TestHandedOutIsNew(t *testing.T) {
	byEach(t, func(t *testing.T, x api.Table) {
		e := recip.New(x)
		s := source(24)
		for _, d := range []api.Nat{{1}, {5}, {most, 0}, {0, 1}, s.row(3), s.row(4), under(same(0, 3), 1), under(same(0, 8), half), s.row(5), s.row(12), s.row(41)} {
			b := d.Bits()
			for _, n := range []int{0, b - 1, b, b + 5, b + 60, b + 200, 2 * b, 3 * b} {
				d, behindD := walled(d)
				a, behindA := walled(limb.Low(s.row(n/64+1), n))
				v, behindV := walled(over(n, d))
				list := []api.Nat{behindD, behindA, behindV}
				for range 2 {
					w, _ := e.Recip(d, n)
					q, r, _ := e.By(a, d, v, n)
					topQ, topR, _ := e.By(power(n), d, v, n)
					zeroQ, zeroR, _ := e.By(nil, d, v, n)
					list = append(list, w, q, r, topQ, topR, zeroQ, zeroR)
				}
				apart(t, "answers", list...)
			}
		}
	})
}

// What was handed in is not kept: it may be overwritten behind a call, and answers are as they were.
func TestNothingIsKept(t *testing.T) {
	byEach(t, func(t *testing.T, x api.Table) {
		e := recip.New(x)
		s := source(25)
		for _, m := range []int{1, 2, 4, 5, 12} {
			for _, n := range []int{64*m - 1, 64*m + 90, 128 * m, 64*m + 700} {
				d, a := s.row(m), limb.Low(s.row(n/64+1), n)
				asked := over(n, d)
				askedQ, askedR := parted(a, d)
				v, _ := e.Recip(d, n)
				given := slices.Clone(v)
				q, r, _ := e.By(a, d, given, n)
				overwrite(d, 99)
				overwrite(a, 98)
				overwrite(given, 97)
				words(t, "the reciprocal", v, asked)
				words(t, "the quotient", q, askedQ)
				words(t, "the remainder", r, askedR)
			}
		}
	})
}

// R5: what was asked before changes no answer, nor what is spent for it.
func TestOrder(t *testing.T) {
	byEach(t, func(t *testing.T, x api.Table) {
		s := source(26)
		d, n := s.row(59), 64*100
		a := limb.Low(s.row(101), n)
		fresh, used := recip.New(x), recip.New(x)
		for m := range 50 {
			v, _ := used.Recip(s.row(m), 100*m)
			used.By(s.row(m), s.row(m), v, 100*m)
			used.Mul(s.row(m), s.row(m))
			used.Recip(d, -n)
		}
		used.Enter()
		before := used.Muls()
		v, _ := fresh.Recip(d, n)
		q, r, _ := fresh.By(a, d, v, n)
		otherV, _ := used.Recip(d, n)
		otherQ, otherR, _ := used.By(a, d, v, n)
		words(t, "the reciprocal", otherV, v)
		words(t, "the quotient", otherQ, q)
		words(t, "the remainder", otherR, r)
		is(t, "Muls", used.Muls()-before, fresh.Muls())
		is(t, "Now", used.Now(), 1)
	})
}
