package divs_test

import (
	"fmt"
	"math"
	"math/big"
	"slices"
	"testing"

	"ziggurat/api"
	"ziggurat/divs"
	"ziggurat/limb"
	"ziggurat/mul"
	"ziggurat/table"
)

const (
	half = uint64(1) << 63
	most = ^uint64(0)
)

// source is a row of words that is the same in every run; each fourth or so is at an edge.
type source uint64

func (s *source) next() uint64 {
	*s = *s*6364136223846793005 + 1442695040888963407
	x := uint64(*s)
	x ^= x >> 29
	switch x >> 59 {
	case 0, 1:
		return 0
	case 2, 3:
		return most
	case 4:
		return half
	case 5:
		return x & 3
	case 6:
		return most - x&3
	}
	return x * 0x9e3779b97f4a7c15
}

// row has n words, and none on top that is 0.
func (s *source) row(n int) api.Nat {
	a := make(api.Nat, n)
	for i := range a {
		a[i] = s.next()
	}
	if n > 0 && a[n-1] == 0 {
		a[n-1] = 1
	}
	return a
}

func same(x uint64, n int) api.Nat { return slices.Repeat(api.Nat{x}, n) }

// topped is a with n zero words on top, in new memory.
func topped(a api.Nat, n int) api.Nat { return slices.Concat(a, same(0, n)) }

// under is a with that word on top, in new memory.
func under(a api.Nat, top uint64) api.Nat { return slices.Concat(a, api.Nat{top}) }

// tops are the top words at which divisors are moved by 63 places, by none, and by some between.
func tops() []uint64 {
	return []uint64{1, 2, 3, 1 << 31, 1 << 32, 1 << 62, half - 1, half, half + 1, most - 1, most}
}

// rows are rows of n words, of all kinds: any, the greatest words, lone words at either end, and noughts within; none has zero words on top.
func rows(n int) []api.Nat {
	s := source(70 + n)
	if n == 0 {
		return []api.Nat{nil}
	}
	lone, bottom, within, sparse := make(api.Nat, n), same(most, n), same(most, n), make(api.Nat, n)
	lone[n-1] = 1
	clear(bottom[:n/2])
	clear(within[n/3 : n-n/3])
	within[n-1] = most
	sparse[0], sparse[n-1] = most, half
	bottom[n-1] = most
	return []api.Nat{s.row(n), s.row(n), same(most, n), same(1, n), same(half, n), lone, bottom, within, sparse}
}

// zeros are ways to write 0.
func zeros() []api.Nat {
	return []api.Nat{nil, {}, {0}, {0, 0}, same(0, 5), same(0, 70), same(0, api.MaxWords)}
}

// tables send products each way: the zero table, those that go by hand, in two pieces, in three and by transforms wherever that may be, some between, and the least and the greatest numbers of all.
func tables() []api.Table {
	least, greatest := slices.Repeat([]int{math.MinInt}, 11), slices.Repeat([]int{math.MaxInt}, 11)
	return []api.Table{
		{},
		table.Least(4, 8192, 16384),
		table.Least(4, 12, 16384),
		table.Least(5, 13, 65, 5, 5, 3, 3, 5, 5, 3, 3),
		table.Least(9, 30, 150),
		table.Least(64, 12, 64),
		table.Least(24, 40, 200),
		table.Least(least...),
		table.Least(greatest...),
		table.Least(math.MinInt, math.MaxInt, math.MinInt, -1),
		table.Least(math.MaxInt, math.MinInt, math.MaxInt, 1),
	}
}

// byEach asks of every table, each in a test of its own.
func byEach(t *testing.T, f func(t *testing.T, x api.Table)) {
	for i, x := range tables() {
		t.Run(fmt.Sprint(i), func(t *testing.T) {
			t.Parallel()
			f(t, x)
		})
	}
}

// What is asked, reckoned by the library's great numbers, and by lengths alone.

// great is the number that has these words.
func great(a api.Nat) *big.Int {
	list := make([]byte, 0, 8*len(a))
	for _, w := range slices.Backward(a) {
		for place := 56; place >= 0; place -= 8 {
			list = append(list, byte(w>>place))
		}
	}
	return new(big.Int).SetBytes(list)
}

// wordsOf are the words of a number, without noughts on top.
func wordsOf(x *big.Int) api.Nat {
	n := (x.BitLen() + 63) / 64
	row := make(api.Nat, n)
	list := x.FillBytes(make([]byte, 8*n))
	for i := range list {
		row[n-1-i/8] = row[n-1-i/8]<<8 | uint64(list[i])
	}
	return row
}

func product(a, b api.Nat) api.Nat { return wordsOf(new(big.Int).Mul(great(a), great(b))) }

func plus(a, b api.Nat) api.Nat { return wordsOf(new(big.Int).Add(great(a), great(b))) }

// minus is a - b, where b is not above a.
func minus(a, b api.Nat) api.Nat { return wordsOf(new(big.Int).Sub(great(a), great(b))) }

// parted are quotient and remainder.
func parted(a, b api.Nat) (q, r api.Nat) {
	x, y := new(big.Int).QuoRem(great(a), great(b), new(big.Int))
	return wordsOf(x), wordsOf(y)
}

// cost is what a division of n by m words spends.
func cost(n, m int) int {
	if n < m {
		return 0
	}
	return (n - m + 1) * (m + 1)
}

// What is held against what is asked.

func is(t *testing.T, told string, answer, asked int) {
	t.Helper()
	if answer != asked {
		t.Fatalf("%s: %d; asked is %d", told, answer, asked)
	}
}

func words(t *testing.T, told string, answer, asked api.Nat) {
	t.Helper()
	if !slices.Equal(answer, asked) {
		t.Fatalf("%s: %x; asked is %x", told, answer, asked)
	}
}

// fine holds that there is no error.
func fine(t *testing.T, told string, err api.Errno) {
	t.Helper()
	is(t, told+": the error", int(err), int(api.OK))
}

// refused holds a division by 0: nothing stands beside the error.
func refused(t *testing.T, told string, err api.Errno, beside ...api.Nat) {
	t.Helper()
	is(t, told+": the error", int(err), int(api.ErrZero))
	for _, a := range beside {
		if len(a) != 0 {
			t.Fatalf("%s: beside the error stands %x", told, a)
		}
	}
}

// checkParts holds that a is q b + r, and r below b, by limb and the products of mul.
func checkParts(t *testing.T, told string, a, b, q, r api.Nat) {
	t.Helper()
	if limb.Cmp(r, b) >= 0 {
		t.Fatalf("%s: the remainder %x is not below %x", told, r, b)
	}
	if len(q) != q.Len() || len(r) != r.Len() {
		t.Fatalf("%s: zero words on top: %x, %x", told, q, r)
	}
	words(t, told+": q b + r", limb.Add(mul.New(api.Table{}).Mul(q, b), r), limb.Norm(a))
}

// checkLong holds a division, what it spends, and that it enters no level; zero words on top are nothing.
func checkLong(t *testing.T, e *divs.Engine, a, b api.Nat) {
	t.Helper()
	told := fmt.Sprintf("Long of %d by %d words", a.Len(), b.Len())
	spent, now, deep := e.Muls(), e.Now(), e.Deep()
	q, r, err := e.Long(a, b)
	fine(t, told, err)
	is(t, told+": Muls", e.Muls()-spent, cost(a.Len(), b.Len()))
	is(t, told+": Now", e.Now(), now)
	is(t, told+": Deep", e.Deep(), deep)
	askedQ, askedR := parted(a, b)
	words(t, told+": the quotient", q, askedQ)
	words(t, told+": the remainder", r, askedR)
	checkParts(t, told, a, b, q, r)
}

// P13.1: New, and what is promoted

func TestNew(t *testing.T) {
	for _, x := range tables() {
		e := divs.New(x)
		clamped := table.Clamp(x)
		if e.Table != clamped || e.Engine.Table != mul.New(x).Table {
			t.Errorf("%v: %v", x, e.Table)
		}
		entries := []int{e.Base, e.Table.Toom, e.Ntt, e.Div, e.Recip, e.Lehmer, e.Radix, e.Poly, e.Kron, e.Series, e.Tree}
		asked := []int{clamped.Base, clamped.Toom, clamped.Ntt, clamped.Div, clamped.Recip, clamped.Lehmer, clamped.Radix, clamped.Poly, clamped.Kron, clamped.Series, clamped.Tree}
		if !slices.Equal(entries, asked) {
			t.Errorf("%v: %v", x, entries)
		}
		is(t, "Muls", e.Muls(), 0)
		is(t, "Now", e.Now(), 0)
		is(t, "Deep", e.Deep(), 0)
		if other := divs.New(x); other == e || other.Engine == e.Engine || other.Tune == e.Tune {
			t.Error("two engines have one meter")
		}
	}
}

// Two engines spend each for itself.
func TestTwoMeters(t *testing.T) {
	e, other := divs.New(api.Table{}), divs.New(api.Table{})
	e.Long(same(7, 9), same(3, 4))
	other.Enter()
	is(t, "Muls", e.Muls(), 30)
	is(t, "Muls of the other", other.Muls(), 0)
	is(t, "Now", e.Now(), 0)
}

// The engines below can be asked through this one, and all have one meter.
func TestPromoted(t *testing.T) {
	e := divs.New(table.Least(4))
	s := source(6)
	a, b := s.row(9), s.row(9)
	ab, aa := product(a, b), product(a, a)
	for _, c := range []struct {
		name  string
		ask   func() (api.Nat, bool)
		want  api.Nat
		spent int
	}{
		{"Mul", func() (api.Nat, bool) { return e.Mul(a, b), true }, ab, table.Cost(e.Table, 9, 9)},
		{"Sqr", func() (api.Nat, bool) { return e.Sqr(a), true }, aa, table.Square(e.Table, 9)},
		{"Product", func() (api.Nat, bool) { return e.Product(a, b), true }, ab, table.Cost(e.Table, 9, 9)},
		{"Product of three", func() (api.Nat, bool) { return e.Product(api.Nat{2}, api.Nat{3}, api.Nat{7}), true }, api.Nat{42}, 2},
		{"By School", func() (api.Nat, bool) { return e.By(table.School, a, b) }, ab, 81},
		{"By Ntt", func() (api.Nat, bool) { return e.By(table.Ntt, a, b) }, ab, table.Transform(9, 9, 3)},
		{"Toom", func() (api.Nat, bool) { return e.Toom(a, b, e.Engine.Engine.Mul) }, ab, 9 + 3*16 + 9},
		{"ToomSqr", func() (api.Nat, bool) { return e.ToomSqr(a, e.Engine.Engine.Sqr) }, aa, 6 + 3*10 + 6},
		{"Kara", func() (api.Nat, bool) { return e.Kara(a, b, e.Engine.Engine.Mul) }, ab, 25 + 16 + 36},
		{"KaraSqr", func() (api.Nat, bool) { return e.KaraSqr(a, e.Engine.Engine.Sqr) }, aa, 15 + 10 + 21},
		{"Both", func() (api.Nat, bool) { return e.Both(a, b), true }, ab, table.Cost(e.Table, 9, 9)},
		{"Mul by hand", func() (api.Nat, bool) { return e.Engine.Engine.Mul(a, b), true }, ab, 81},
		{"Power", func() (api.Nat, bool) { return e.Power(api.Nat{3}, 5), true }, api.Nat{243}, 5},
	} {
		e.Reset()
		got, ok := c.ask()
		if !ok {
			t.Fatalf("%s: false", c.name)
		}
		words(t, c.name, got, c.want)
		is(t, c.name+": Muls", e.Muls(), c.spent)
		is(t, c.name+": Now", e.Now(), 0)
	}
	c, ok := e.By(table.Toom, a, api.Nat{5})
	if ok || len(c) != 0 {
		t.Errorf("By: %v, %v", c, ok)
	}
}

// What a division spends is to be seen through the engines below, and what they spend through this one.
func TestOneMeter(t *testing.T) {
	e := divs.New(table.Least(4))
	e.Long(same(9, 7), same(5, 3))
	is(t, "Muls", e.Muls(), 20)
	is(t, "Muls of mul", e.Engine.Muls(), 20)
	is(t, "Muls of toom", e.Engine.Engine.Muls(), 20)
	is(t, "Muls of the tune", e.Tune.Muls(), 20)
	e.Engine.Mul(same(9, 4), same(5, 4))
	is(t, "Muls", e.Muls(), 37)
	is(t, "Deep", e.Deep(), 1)
	is(t, "Spend", e.Spend(5), 42)
	is(t, "Route", e.Route(9, 9), table.Kara)
	is(t, "Route", e.Route(12, 12), table.Toom)
	is(t, "Enter", e.Enter(), 1)
	is(t, "Enter", e.Enter(), 2)
	is(t, "Now", e.Now(), 2)
	is(t, "Leave", e.Leave(), 1)
	is(t, "Deep", e.Deep(), 2)
	e.Reset()
	is(t, "Muls", e.Muls(), 0)
	is(t, "Now", e.Now(), 0)
	is(t, "Deep", e.Deep(), 0)
}

// P13.1: Long

func TestExample(t *testing.T) {
	e := divs.New(api.Table{})
	q, r, err := e.Long(api.Nat{0, 1}, api.Nat{3})
	fine(t, "B by 3", err)
	words(t, "the quotient", q, api.Nat{most / 3})
	words(t, "the remainder", r, api.Nat{1})
	is(t, "Muls", e.Muls(), 4)
}

// Divisions that are told by numbers, with what they spend.
func TestLongByHand(t *testing.T) {
	byEach(t, func(t *testing.T, x api.Table) {
		for _, c := range []struct {
			a, b, q, r api.Nat
			spent      int
		}{
			{nil, api.Nat{5}, nil, nil, 0},
			{nil, api.Nat{0, 1}, nil, nil, 0},
			{api.Nat{7}, api.Nat{9}, nil, api.Nat{7}, 2},
			{api.Nat{9}, api.Nat{9}, api.Nat{1}, nil, 2},
			{api.Nat{100}, api.Nat{7}, api.Nat{14}, api.Nat{2}, 2},
			{api.Nat{100}, api.Nat{0, 1}, nil, api.Nat{100}, 0},
			{api.Nat{5, 7}, api.Nat{1}, api.Nat{5, 7}, nil, 4},
			{api.Nat{5, 7}, api.Nat{0, 1}, api.Nat{7}, api.Nat{5}, 3},
			{api.Nat{5, 7}, api.Nat{6, 7}, nil, api.Nat{5, 7}, 3},
			{api.Nat{6, 7}, api.Nat{5, 7}, api.Nat{1}, api.Nat{1}, 3},
			{api.Nat{1, 2, 3}, api.Nat{0, 1}, api.Nat{2, 3}, api.Nat{1}, 6},
			{api.Nat{0, 0, 1}, api.Nat{most, most}, api.Nat{1}, api.Nat{1}, 6},
			{api.Nat{10, 120, 230, 300}, api.Nat{10, 100}, api.Nat{1, 2, 3}, nil, 9},
			{api.Nat{10, 120, 230, 300}, api.Nat{1, 2, 3}, api.Nat{10, 100}, nil, 8},
			{api.Nat{11, 121, 230, 300}, api.Nat{1, 2, 3}, api.Nat{10, 100}, api.Nat{1, 1}, 8},
			{api.Nat{9, 120, 230, 300}, api.Nat{1, 2, 3}, api.Nat{9, 100}, api.Nat{0, 2, 3}, 8},
			{api.Nat{0, 0, 0, 1}, api.Nat{0, half}, api.Nat{0, 2}, nil, 9},
		} {
			e := divs.New(x)
			told := fmt.Sprintf("%v by %v", c.a, c.b)
			q, r, err := e.Long(c.a, c.b)
			fine(t, told, err)
			words(t, told, q, c.q)
			words(t, told, r, c.r)
			is(t, told+": Muls", e.Muls(), c.spent)
			is(t, told+": Deep", e.Deep(), 0)
		}
	})
}

// By 0, however it is written, whatever is divided, a 0 too: nothing is spent, and nothing stands beside the error.
func TestLongByZero(t *testing.T) {
	byEach(t, func(t *testing.T, x api.Table) {
		e := divs.New(x)
		s := source(7)
		e.Spend(3)
		level := e.Enter()
		for _, zero := range zeros() {
			for _, n := range []int{0, 1, 2, 5, 70, api.MaxWords} {
				a := s.row(n)
				for _, a := range []api.Nat{a, topped(a, 1), topped(a, 9)} {
					q, r, err := e.Long(a, zero)
					refused(t, fmt.Sprintf("%d words by 0 of %d words", n, len(zero)), err, q, r)
				}
			}
			for _, a := range zeros() {
				q, r, err := e.Long(a, zero)
				refused(t, "0 by 0", err, q, r)
			}
		}
		is(t, "Muls", e.Muls(), 3)
		is(t, "Now", e.Now(), level)
		is(t, "Deep", e.Deep(), level)
	})
}

// Behind an error the engine is as it was.
func TestBehindAnError(t *testing.T) {
	e := divs.New(api.Table{})
	before := e.Table
	e.Long(api.Nat{5}, nil)
	e.LongMod(api.Nat{5}, nil)
	if e.Table != before {
		t.Error(e.Table)
	}
	checkLong(t, e, same(most, 9), same(3, 4))
	is(t, "Muls", e.Muls(), 30)
}

// A 0 has quotient and remainder 0, and costs nothing.
func TestLongOfZero(t *testing.T) {
	byEach(t, func(t *testing.T, x api.Table) {
		e := divs.New(x)
		for _, zero := range zeros() {
			for _, m := range []int{1, 2, 3, 9, 70} {
				for _, b := range rows(m) {
					q, r, err := e.Long(zero, b)
					fine(t, "0", err)
					if len(q) != 0 || len(r) != 0 {
						t.Fatal(q, r)
					}
				}
			}
		}
		is(t, "Muls", e.Muls(), 0)
	})
}

// A number by itself, by 1, by the next one, by the one before, and by longer ones.
func TestLongByNeighbours(t *testing.T) {
	byEach(t, func(t *testing.T, x api.Table) {
		e := divs.New(x)
		one := api.Nat{1}
		for n := 1; n < 40; n++ {
			for _, a := range rows(n) {
				q, r, err := e.Long(a, a)
				fine(t, "by itself", err)
				words(t, "by itself", q, one)
				words(t, "by itself", r, nil)
				q, r, err = e.Long(a, one)
				fine(t, "by 1", err)
				words(t, "by 1", q, a)
				words(t, "by 1", r, nil)
				for _, b := range []api.Nat{a, one, plus(a, one), product(a, api.Nat{2}), under(a, 1), under(a, most), slices.Concat(a, a)} {
					checkLong(t, e, a, b)
				}
				if b := minus(a, one); !b.Zero() {
					checkLong(t, e, a, b)
				}
			}
		}
	})
}

// By a greater one of the same length the quotient is 0, and yet m + 1 are spent; by a longer one none.
func TestLongByGreater(t *testing.T) {
	byEach(t, func(t *testing.T, x api.Table) {
		s := source(8)
		for n := 1; n < 60; n++ {
			a := s.row(n)
			a[n-1] = min(a[n-1], most-1)
			b := slices.Clone(a)
			b[n-1]++
			low := slices.Clone(a)
			low[0] = most
			for _, b := range []api.Nat{b, low, same(most, n)} {
				if slices.Equal(a, b) {
					continue
				}
				e := divs.New(x)
				q, r, err := e.Long(a, b)
				fine(t, "of the same length", err)
				words(t, "of the same length", q, nil)
				words(t, "of the same length", r, a)
				is(t, "of the same length: Muls", e.Muls(), n+1)
				q, r, err = e.Long(a, under(b, 1))
				fine(t, "of a longer one", err)
				words(t, "of a longer one", q, nil)
				words(t, "of a longer one", r, a)
				is(t, "of a longer one: Muls", e.Muls(), n+1)
			}
		}
	})
}

// Each length of both, from 0 to some dozens.
func TestAllLengths(t *testing.T) {
	byEach(t, func(t *testing.T, x api.Table) {
		e := divs.New(x)
		s := source(9)
		for n := range 50 {
			for m := 1; m < 50; m++ {
				checkLong(t, e, s.row(n), s.row(m))
			}
		}
	})
}

// By one word: at the edges, of rows of all kinds.
func TestByOneWord(t *testing.T) {
	e := divs.New(api.Table{})
	s := source(10)
	for n := range 20 {
		for _, a := range rows(n) {
			for _, w := range append(tops(), s.next()|1, s.next()|1) {
				checkLong(t, e, a, api.Nat{w})
			}
		}
	}
}

// By two words, each at the edges, of rows of all kinds.
func TestByTwoWords(t *testing.T) {
	e := divs.New(api.Table{})
	s := source(11)
	for n := range 12 {
		for _, a := range rows(n) {
			for _, top := range append(tops(), s.next()|1) {
				for _, low := range append(tops(), 0, s.next()) {
					checkLong(t, e, a, api.Nat{low, top})
				}
			}
		}
	}
}

// Divisors of each top word, above rows of all kinds; divided are rows of each top word, too.
func TestTopWords(t *testing.T) {
	e := divs.New(api.Table{})
	for _, m := range []int{1, 2, 3, 5, 8} {
		for i, low := range rows(m - 1) {
			for _, top := range tops() {
				b := under(low, top)
				for _, n := range []int{m - 1, m, m + 1, m + 2, 2 * m, 2*m + 3} {
					list := rows(n)
					for _, a := range []api.Nat{list[i%len(list)], list[(i+2)%len(list)], list[(i+5)%len(list)]} {
						checkLong(t, e, a, b)
						if n == 0 {
							continue
						}
						for _, top := range tops() {
							checkLong(t, e, under(a[:n-1], top), b)
						}
					}
				}
			}
		}
	}
}

// Rows of all kinds by rows of all kinds.
func TestAllKinds(t *testing.T) {
	byEach(t, func(t *testing.T, x api.Table) {
		e := divs.New(x)
		for _, n := range []int{1, 2, 3, 4, 7, 8, 13, 33, 65} {
			for _, m := range []int{1, 2, 3, n/3 + 1, n/2 + 1, n - 1, n, n + 1} {
				for _, a := range rows(n) {
					for _, b := range rows(max(m, 1)) {
						checkLong(t, e, a, b)
					}
				}
			}
		}
	})
}

// Quotients whose words are 0 and B - 1, 1 and B - 2, in every row of three, with the least and the greatest remainders.
func TestQuotientWords(t *testing.T) {
	e := divs.New(api.Table{})
	edges := []uint64{0, 1, most - 1, most, half}
	var quotients []api.Nat
	for _, x := range edges {
		for _, y := range edges {
			for _, z := range edges {
				quotients = append(quotients, api.Nat{x, y, z, 1}, api.Nat{x, y, z, most})
			}
		}
	}
	quotients = append(quotients, same(most, 20), under(same(0, 20), 1), under(same(0, 20), most), slices.Concat(same(most, 5), same(0, 5), same(most, 5)))
	for _, m := range []int{1, 2, 3, 4, 9} {
		for i, low := range rows(m - 1) {
			for j, top := range tops() {
				b := under(low, top)
				last := minus(b, api.Nat{1})
				for k, q := range quotients {
					if (i+j+k)%3 != 0 {
						continue
					}
					for _, r := range []api.Nat{nil, wordsOf(great(b[:m-1])), last} {
						a := plus(product(q, b), r)
						gotQ, gotR, err := e.Long(a, b)
						fine(t, "Long", err)
						words(t, fmt.Sprintf("%x by %x: the quotient", a, b), gotQ, q)
						words(t, fmt.Sprintf("%x by %x: the remainder", a, b), gotR, r)
					}
				}
			}
		}
	}
}

// Where the divisor's two top words alone tell one too many: what is divided is the top words' multiple, the low words are left out.
func TestTooMany(t *testing.T) {
	e := divs.New(api.Table{})
	s := source(12)
	for _, m := range []int{3, 4, 5, 11} {
		for _, top := range tops() {
			for _, second := range []uint64{0, 1, half, most - 1, most} {
				for _, low := range []api.Nat{same(most, m-2), same(1, m-2), s.row(m - 2), under(same(0, m-3), most), under(same(0, m-3), 1), under(same(0, m-3), half)} {
					b := slices.Concat(low, api.Nat{second, top})
					high := slices.Concat(same(0, m-2), api.Nat{second, top})
					for _, q := range []api.Nat{{1}, {most}, {half}, {most - 1}, same(most, 4), {0, 1}, {0, 0, most}, s.row(5)} {
						a := product(q, high)
						checkLong(t, e, a, b)
						checkLong(t, e, slices.Concat(same(most, 3), a), b)
						checkLong(t, e, minus(product(q, b), api.Nat{1}), b)
					}
				}
			}
		}
	}
}

// Where what is left has the divisor's own two top words: the quotient's word is then B - 1.
func TestAlikeOnTop(t *testing.T) {
	e := divs.New(api.Table{})
	for _, m := range []int{2, 3, 4, 7} {
		for _, top := range []uint64{half, half + 1, most - 1, most} {
			for _, second := range []uint64{1, half, most} {
				for _, low := range rows(m - 2) {
					b := slices.Concat(low, api.Nat{second, top})
					for _, behind := range []uint64{0, 1, half, most} {
						before := minus(b, api.Nat{1})
						for _, a := range []api.Nat{
							slices.Concat(api.Nat{behind}, before),
							slices.Concat(api.Nat{behind, behind}, before),
							slices.Concat(same(behind, 5), api.Nat{second - 1, top}),
							slices.Concat(same(behind, m), api.Nat{second, top}),
						} {
							checkLong(t, e, a, b)
						}
						if m > 2 && low.Len() > 0 {
							a := slices.Concat(api.Nat{behind}, minus(low, api.Nat{1}), same(0, low.Len()-minus(low, api.Nat{1}).Len()), api.Nat{second, top})
							checkLong(t, e, a, b)
						}
					}
				}
			}
		}
	}
}

// Some hundreds of words, by divisors of few and of many.
func TestHundreds(t *testing.T) {
	byEach(t, func(t *testing.T, x api.Table) {
		e := divs.New(x)
		s := source(13)
		for _, n := range []int{100, 128, 255, 300, 777} {
			a := s.row(n)
			for _, m := range []int{1, 2, 3, 40, n / 3, n / 2, n/2 + 1, n - 2, n - 1, n, n + 1} {
				checkLong(t, e, a, s.row(m))
				checkLong(t, e, same(most, n), s.row(m))
				checkLong(t, e, a, same(most, m))
				checkLong(t, e, under(same(0, n-1), 1), same(most, m))
				checkLong(t, e, a, under(same(0, m-1), 1))
			}
		}
	})
}

// The longest rows that may be handed in.
func TestMostWords(t *testing.T) {
	s := source(14)
	e := divs.New(api.Table{})
	n := api.MaxWords
	a := s.row(n)
	for _, m := range []int{1, 2, 3, 500, n / 2, n - 1, n} {
		checkLong(t, e, a, s.row(m))
	}
	checkLong(t, e, same(most, n), same(most, n-3))
	checkLong(t, e, same(most, n), under(same(0, 900), half))
	checkLong(t, e, under(same(0, n-1), 1), same(most, 1000))
}

// Beyond the limit a call ends, and here it answers what it is asked.
func TestBeyond(t *testing.T) {
	s := source(15)
	e := divs.New(api.Table{})
	n := api.MaxWords
	for _, pair := range [][2]int{{n + 1, 1}, {n + 1, 2}, {2*n + 3, n + n}, {n, n + 1}, {4 * n, 70}} {
		checkLong(t, e, s.row(pair[0]), s.row(pair[1]))
	}
	checkLong(t, e, topped(s.row(9), 2*n), topped(s.row(4), n))
}

// What is spent

// What is spent is added to what was spent before, at whatever level.
func TestSpentIsAdded(t *testing.T) {
	byEach(t, func(t *testing.T, x api.Table) {
		e := divs.New(x)
		s := source(16)
		spent := e.Spend(77)
		for n := range 90 {
			m := n*37%91 + 1
			level := e.Enter()
			e.Long(s.row(n), s.row(m))
			spent += cost(n, m)
			is(t, "Muls", e.Muls(), spent)
			e.LongMod(s.row(n), s.row(m), s.row(3))
			spent += cost(n, m) + cost(n, 3)
			is(t, "Muls", e.Muls(), spent)
			is(t, "Now", e.Now(), level)
			is(t, "Deep", e.Deep(), level)
		}
	})
}

// What is spent hangs on lengths alone, told by numbers.
func TestSpentByNumbers(t *testing.T) {
	for _, c := range []struct{ n, m, asked int }{
		{0, 1, 0}, {1, 1, 2}, {2, 1, 4}, {9, 1, 18}, {1, 2, 0}, {2, 2, 3}, {3, 2, 6}, {9, 2, 24},
		{3, 3, 4}, {9, 3, 28}, {9, 5, 30}, {9, 8, 18}, {9, 9, 10}, {9, 10, 0}, {9, 90, 0}, {100, 50, 51 * 51}, {300, 7, 294 * 8},
	} {
		for _, a := range rows(c.n) {
			for _, b := range rows(c.m) {
				e := divs.New(api.Table{})
				e.Long(a, b)
				is(t, fmt.Sprint(c), e.Muls(), c.asked)
			}
		}
	}
}

// Zero words on top are nothing: they change no answer, and cost none.
func TestZeroWordsOnTop(t *testing.T) {
	byEach(t, func(t *testing.T, x api.Table) {
		e := divs.New(x)
		s := source(17)
		for _, n := range []int{0, 1, 2, 3, 4, 7, 12, 33, 64} {
			for _, m := range []int{1, 2, 3, 6, n/2 + 1, n + 1} {
				a, b := s.row(n), s.row(m)
				for _, more := range [][2]int{{0, 0}, {1, 0}, {0, 1}, {2, 2}, {5, 70}, {90, 3}} {
					checkLong(t, e, topped(a, more[0]), topped(b, more[1]))
					q, r, err := e.Long(topped(a, more[0]), topped(b, more[1]))
					askedQ, askedR, _ := e.Long(a, b)
					fine(t, "Long", err)
					words(t, "the quotient", q, askedQ)
					words(t, "the remainder", r, askedR)
				}
			}
		}
	})
}

// P13.1: LongMod

// checkMod holds the remainders by all, and what they spend: each what its own Long does.
func checkMod(t *testing.T, e *divs.Engine, a api.Nat, l ...api.Nat) {
	t.Helper()
	spent, now, deep := e.Muls(), e.Now(), e.Deep()
	list, err := e.LongMod(a, l...)
	fine(t, "LongMod", err)
	is(t, "LongMod: how many", len(list), len(l))
	for i, b := range l {
		_, asked := parted(a, b)
		words(t, fmt.Sprintf("LongMod: the %d-th of %d", i, len(l)), list[i], asked)
		spent += cost(a.Len(), b.Len())
	}
	is(t, "LongMod: Muls", e.Muls(), spent)
	is(t, "LongMod: Now", e.Now(), now)
	is(t, "LongMod: Deep", e.Deep(), deep)
}

// refusedMod holds that one of the moduli is 0.
func refusedMod(t *testing.T, e *divs.Engine, a api.Nat, l ...api.Nat) {
	t.Helper()
	spent, now := e.Muls(), e.Now()
	list, err := e.LongMod(a, l...)
	refused(t, "LongMod", err)
	is(t, "LongMod: how many", len(list), 0)
	is(t, "LongMod: Muls", e.Muls(), spent)
	is(t, "LongMod: Now", e.Now(), now)
}

func TestLongModByHand(t *testing.T) {
	byEach(t, func(t *testing.T, x api.Table) {
		e := divs.New(x)
		list, err := e.LongMod(api.Nat{100}, api.Nat{7}, api.Nat{200}, api.Nat{0, 1}, api.Nat{10}, api.Nat{7})
		fine(t, "LongMod", err)
		is(t, "how many", len(list), 5)
		for i, asked := range []api.Nat{{2}, {100}, {100}, nil, {2}} {
			words(t, "LongMod", list[i], asked)
		}
		is(t, "Muls", e.Muls(), 8)
	})
}

// Of no modulus: no remainder, and nothing is spent, whatever is divided.
func TestLongModOfNone(t *testing.T) {
	e := divs.New(api.Table{})
	for _, a := range append(zeros(), api.Nat{5}, same(most, 90)) {
		for _, l := range [][]api.Nat{nil, {}} {
			checkMod(t, e, a, l...)
		}
		list, err := e.LongMod(a)
		fine(t, "LongMod", err)
		is(t, "how many", len(list), 0)
	}
	is(t, "Muls", e.Muls(), 0)
}

// Of one modulus it is Long's remainder.
func TestLongModOfOne(t *testing.T) {
	byEach(t, func(t *testing.T, x api.Table) {
		e := divs.New(x)
		s := source(18)
		for n := range 30 {
			for m := 1; m < 30; m++ {
				a, b := s.row(n), s.row(m)
				checkMod(t, e, a, b)
				list, _ := e.LongMod(a, b)
				_, r, _ := e.Long(a, b)
				words(t, "LongMod", list[0], r)
			}
		}
	})
}

// Of many: of all lengths, shorter and longer than what is divided, with zero words on top, and each one twice.
func TestLongModOfMany(t *testing.T) {
	byEach(t, func(t *testing.T, x api.Table) {
		e := divs.New(x)
		s := source(19)
		for _, n := range []int{0, 1, 2, 5, 20, 60} {
			a := s.row(n)
			for count := range 40 {
				var l []api.Nat
				for i := range count {
					l = append(l, topped(s.row((i*7+count)%25+1), i%3))
				}
				l = append(l, l...)
				checkMod(t, e, a, l...)
				checkMod(t, e, topped(a, 4), l...)
			}
			b := s.row(n/2 + 1)
			checkMod(t, e, a, b, b, b)
			checkMod(t, e, a, under(a, 1), same(most, n+1), plus(a, api.Nat{1}), api.Nat{1})
			if n > 0 {
				checkMod(t, e, a, a, a)
			}
		}
	})
}

// As many as may be.
func TestLongModOfMost(t *testing.T) {
	e := divs.New(api.Table{})
	s := source(20)
	l := make([]api.Nat, api.MaxTerms)
	for i := range l {
		l[i] = s.row(i%5 + 1)
	}
	checkMod(t, e, s.row(70), l...)
	l[api.MaxTerms-1] = api.Nat{0, 0}
	refusedMod(t, e, s.row(70), l...)
}

// With a 0 at each place, however it is written, alone and with others, also where 0 is divided, and where another one is greater.
func TestLongModByZero(t *testing.T) {
	byEach(t, func(t *testing.T, x api.Table) {
		e := divs.New(x)
		s := source(21)
		for _, a := range []api.Nat{nil, {0}, {5}, s.row(2), s.row(30), topped(s.row(30), 2)} {
			for _, zero := range zeros() {
				refusedMod(t, e, a, zero)
				refusedMod(t, e, a, zero, zero)
				for count := 1; count < 9; count++ {
					for place := range count {
						var l []api.Nat
						for i := range count {
							l = append(l, s.row(i*i+1))
						}
						l[place] = zero
						refusedMod(t, e, a, l...)
					}
				}
			}
		}
		is(t, "Muls", e.Muls(), 0)
		is(t, "Deep", e.Deep(), 0)
	})
}

// T2: tables

// Every two tables' answers are one, and what is spent, too.
func TestTablesAgree(t *testing.T) {
	s := source(22)
	var engines []*divs.Engine
	for _, x := range tables() {
		engines = append(engines, divs.New(x))
	}
	for n := 0; n < 300; n += 11 {
		for _, m := range []int{1, 2, n/3 + 1, n/2 + 1, n + 1} {
			a, b := s.row(n), s.row(m)
			q, r, _ := engines[0].Long(a, b)
			list, _ := engines[0].LongMod(a, b, api.Nat{3})
			for _, e := range engines[1:] {
				otherQ, otherR, err := e.Long(a, b)
				fine(t, "Long", err)
				words(t, "the quotient", otherQ, q)
				words(t, "the remainder", otherR, r)
				other, err := e.LongMod(a, b, api.Nat{3})
				fine(t, "LongMod", err)
				words(t, "LongMod", other[0], list[0])
				words(t, "LongMod", other[1], list[1])
				is(t, "Muls", e.Muls(), engines[0].Muls())
			}
		}
	}
}

// Whatever stands in the table, a division by 0 is refused.
func TestTablesRefuse(t *testing.T) {
	for _, x := range tables() {
		e := divs.New(x)
		q, r, err := e.Long(same(5, 90), same(0, 3))
		refused(t, "Long", err, q, r)
		refusedMod(t, e, same(5, 90), api.Nat{3}, same(0, 3))
	}
}

// R4: memory

// walled is a row with a wall behind its length, and the memory of both.
func walled(a api.Nat) (row, memory api.Nat) {
	memory = slices.Concat(a, same(0x5a5a, 8))
	return memory[:len(a)], memory
}

// What is handed in is left, and what lies behind its length, too; that is not read, either.
func TestHandedInIsLeft(t *testing.T) {
	byEach(t, func(t *testing.T, x api.Table) {
		e := divs.New(x)
		s := source(23)
		for _, n := range []int{0, 1, 2, 3, 7, 12, 40} {
			for _, m := range []int{0, 1, 2, 3, 9, 33, 41} {
				for _, top := range tops() {
					checkLeft(t, e, s.row(n), s.row(m), top, int(top%3))
				}
			}
		}
	})
}

// checkLeft asks all calls of a and b, b with that word on top, both with so many zero words more.
func checkLeft(t *testing.T, e *divs.Engine, a, b api.Nat, top uint64, more int) {
	t.Helper()
	a, behindA := walled(topped(a, more))
	b, behindB := walled(topped(under(b, top), more))
	zero, behindZero := walled(same(0, more))
	keptA, keptB, keptZero := slices.Clone(behindA), slices.Clone(behindB), slices.Clone(behindZero)
	checkLong(t, e, a, b)
	checkLong(t, e, b, b)
	checkMod(t, e, a, b, b, api.Nat{3})
	q, r, err := e.Long(a, zero)
	refused(t, "Long", err, q, r)
	memory := []api.Nat{b, zero, a, {9}}
	list := memory[:3]
	refusedMod(t, e, a, list...)
	list[1] = api.Nat{5}
	if !a.Zero() {
		checkMod(t, e, a, list...)
	}
	words(t, "a", behindA, keptA)
	words(t, "b", behindB, keptB)
	words(t, "0", behindZero, keptZero)
	words(t, "in the list", list[0], b)
	words(t, "in the list", list[1], api.Nat{5})
	words(t, "in the list", list[2], a)
	words(t, "behind the list", memory[3], api.Nat{9})
}

// overwrite fills a row and its spare room.
func overwrite(a api.Nat, w uint64) {
	a = a[:cap(a)]
	for i := range a {
		a[i] = w
	}
}

// apart says that no two of the rows share memory, spare room too: what is written into one is seen in no other.
func apart(t *testing.T, told string, list ...api.Nat) {
	t.Helper()
	for i, a := range list {
		overwrite(a, uint64(1000+i))
	}
	for i, a := range list {
		for _, w := range a[:cap(a)] {
			if w != uint64(1000+i) {
				t.Fatalf("%s: two rows share memory", told)
			}
		}
	}
}

// Quotients and remainders share no memory, neither with each other nor with what was handed in; the lists within LongMod's answer do not, either.
func TestHandedOutIsNew(t *testing.T) {
	byEach(t, func(t *testing.T, x api.Table) {
		e := divs.New(x)
		s := source(24)
		for _, n := range []int{0, 1, 2, 3, 4, 7, 12, 40} {
			for _, b := range []api.Nat{{1}, {5}, {most, 0}, {0, 1}, {1, 0, half}, s.row(3), s.row(4), s.row(12), s.row(41), under(s.row(4), half)} {
				a, behindA := walled(s.row(n))
				b, behindB := walled(b)
				list := []api.Nat{behindA, behindB}
				for range 2 {
					q, r, _ := e.Long(a, b)
					list = append(list, q, r)
					q, r, _ = e.Long(b, b)
					list = append(list, q, r)
					rests, _ := e.LongMod(a, b, b, api.Nat{3}, b, under(a, 1), under(a, 1))
					list = append(list, rests...)
				}
				apart(t, "rests and quotients", list...)
			}
		}
	})
}

// LongMod's answer is a list of its own, too, and so is its spare room.
func TestListIsNew(t *testing.T) {
	e := divs.New(api.Table{})
	memory := []api.Nat{{7}, {200}, {10}, {11}}
	l := memory[:3]
	first, _ := e.LongMod(api.Nat{100}, l...)
	second, _ := e.LongMod(api.Nat{100}, l...)
	first = first[:cap(first)]
	for i := range first {
		first[i] = api.Nat{77}
	}
	for i, asked := range []api.Nat{{2}, {100}, nil} {
		words(t, "the other answer", second[i], asked)
	}
	for i, asked := range []api.Nat{{7}, {200}, {10}, {11}} {
		words(t, "what was handed in", memory[i], asked)
	}
}

// What was handed in is not kept: it may be overwritten behind a call, and answers are as they were.
func TestNothingIsKept(t *testing.T) {
	e := divs.New(api.Table{})
	s := source(25)
	for _, n := range []int{1, 2, 5, 12} {
		for _, m := range []int{1, 2, 5, 13} {
			a, b := s.row(n), s.row(m)
			askedQ, askedR := parted(a, b)
			q, r, _ := e.Long(a, b)
			list, _ := e.LongMod(a, b)
			overwrite(a, 99)
			overwrite(b, 98)
			words(t, "the quotient", q, askedQ)
			words(t, "the remainder", r, askedR)
			words(t, "LongMod", list[0], askedR)
		}
	}
}

// R5: what was asked before changes no answer, nor what is spent for it.
func TestOrder(t *testing.T) {
	byEach(t, func(t *testing.T, x api.Table) {
		s := source(26)
		a, b := s.row(83), s.row(59)
		fresh, used := divs.New(x), divs.New(x)
		for n := range 70 {
			used.Long(s.row(n), s.row(n/2))
			used.LongMod(s.row(n), s.row(3), s.row(n/2))
			used.Mul(s.row(n), s.row(n))
			used.Long(b, a)
		}
		used.Enter()
		before := used.Muls()
		q, r, _ := fresh.Long(a, b)
		otherQ, otherR, _ := used.Long(a, b)
		words(t, "the quotient", otherQ, q)
		words(t, "the remainder", otherR, r)
		is(t, "Muls", used.Muls()-before, fresh.Muls())
		is(t, "Now", used.Now(), 1)
	})
}
