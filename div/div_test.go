package div_test

import (
	"fmt"
	"slices"
	"testing"

	"ziggurat/api"
	"ziggurat/div"
	"ziggurat/limb"
	"ziggurat/recip"
	"ziggurat/table"
)

// P15.1: New, and what is promoted

func TestNew(t *testing.T) {
	for _, x := range tables() {
		e := div.New(x)
		clamped := table.Clamp(x)
		if e.Table != clamped || e.Engine.Table != recip.New(x).Table {
			t.Errorf("%v: %v", x, e.Table)
		}
		entries := []int{e.Base, e.Table.Toom, e.Ntt, e.Div, e.Table.Recip, e.Lehmer, e.Radix, e.Poly, e.Kron, e.Series, e.Tree}
		asked := []int{clamped.Base, clamped.Toom, clamped.Ntt, clamped.Div, clamped.Recip, clamped.Lehmer, clamped.Radix, clamped.Poly, clamped.Kron, clamped.Series, clamped.Tree}
		if !slices.Equal(entries, asked) {
			t.Errorf("%v: %v", x, entries)
		}
		is(t, "Muls", e.Muls(), 0)
		is(t, "Now", e.Now(), 0)
		is(t, "Deep", e.Deep(), 0)
		if other := div.New(x); other == e || other.Engine == e.Engine || other.Tune == e.Tune {
			t.Error("two engines have one meter")
		}
	}
}

// Two engines spend each for itself.
func TestTwoMeters(t *testing.T) {
	e, other := div.New(table.Least(4, 12, 64, 9)), div.New(api.Table{})
	e.DivMod(same(3, 8), same(5, 4))
	other.Enter()
	is(t, "Muls", e.Muls(), 25)
	is(t, "Muls of the other", other.Muls(), 0)
	is(t, "Now", e.Now(), 0)
}

// The products of the engines below can be asked through this one.
func TestPromoted(t *testing.T) {
	e := div.New(table.Least(4))
	s := source(6)
	a, b := s.row(9), s.row(9)
	ab, aa := product(a, b), product(a, a)
	hand := e.Engine.Engine.Engine.Engine
	for _, c := range []struct {
		name  string
		ask   func() (api.Nat, bool)
		want  api.Nat
		spent int
	}{
		{"Mul", func() (api.Nat, bool) { return e.Mul(a, b), true }, ab, table.Cost(e.Table, 9, 9)},
		{"Sqr", func() (api.Nat, bool) { return e.Sqr(a), true }, aa, table.Square(e.Table, 9)},
		{"Product", func() (api.Nat, bool) { return e.Product(a, b), true }, ab, table.Cost(e.Table, 9, 9)},
		{"Product of three", func() (api.Nat, bool) { return e.Product(api.Nat{2}, api.Nat{3}, api.Nat{7}), true }, api.Nat{42}, 2},
		{"mul's By", func() (api.Nat, bool) { return e.Engine.Engine.By(table.School, a, b) }, ab, 81},
		{"Toom", func() (api.Nat, bool) { return e.Toom(a, b, hand.Mul) }, ab, 9 + 3*16 + 9},
		{"ToomSqr", func() (api.Nat, bool) { return e.ToomSqr(a, hand.Sqr) }, aa, 6 + 3*10 + 6},
		{"Kara", func() (api.Nat, bool) { return e.Kara(a, b, hand.Mul) }, ab, 25 + 16 + 36},
		{"KaraSqr", func() (api.Nat, bool) { return e.KaraSqr(a, hand.Sqr) }, aa, 15 + 10 + 21},
		{"Both", func() (api.Nat, bool) { return e.Both(a, b), true }, ab, table.Cost(e.Table, 9, 9)},
		{"Mul by hand", func() (api.Nat, bool) { return hand.Mul(a, b), true }, ab, 81},
		{"Power", func() (api.Nat, bool) { return e.Power(api.Nat{3}, 5), true }, api.Nat{243}, 5},
	} {
		e.Reset()
		got, ok := c.ask()
		if !ok {
			t.Fatalf("%s: false", c.name)
		}
		words(t, c.name, got, c.want)
		is(t, c.name+": Muls", e.Muls(), c.spent)
		is(t, c.name+": Now", e.Now(), 0)
	}
}

// So can their divisions: By is recip's.
func TestPromotedDivision(t *testing.T) {
	e := div.New(table.Least(4))
	s := source(7)
	a, b := s.row(9), s.row(4)
	q, r, err := e.Long(a, b)
	is(t, "Muls", e.Muls(), 30)
	holds(t, div.New(api.Table{}), "Long", a, b, q, r, err)
	q, r, err = e.Long(a, nil)
	refused(t, "Long", err, api.ErrZero, q, r)
	list, err := e.LongMod(api.Nat{100}, api.Nat{7}, api.Nat{200}, api.Nat{10})
	fine(t, "LongMod", err)
	is(t, "how many", len(list), 3)
	for i, asked := range []api.Nat{{2}, {100}, nil} {
		words(t, "LongMod", list[i], asked)
	}
	is(t, "Muls", e.Muls(), 36)
	v, err := e.Recip(api.Nat{3}, 4)
	fine(t, "Recip", err)
	words(t, "Recip", v, api.Nat{5})
	v, err = e.Recip(nil, 4)
	refused(t, "Recip", err, api.ErrZero, v)
	q, r, err = e.By(api.Nat{16}, api.Nat{3}, api.Nat{5}, 4)
	holds(t, e, "By", api.Nat{16}, api.Nat{3}, q, r, err)
	q, r, err = e.By(api.Nat{16}, api.Nat{3}, api.Nat{6}, 4)
	refused(t, "By", err, api.ErrArg, q, r)
}

// What this engine spends is to be seen through the engines below, and what they spend through this one.
func TestOneMeter(t *testing.T) {
	e := div.New(table.Least(4, 12, 64, 9))
	e.DivMod(same(3, 8), same(5, 4))
	is(t, "Muls", e.Muls(), 25)
	is(t, "Muls of recip", e.Engine.Muls(), 25)
	is(t, "Muls of divs", e.Engine.Engine.Muls(), 25)
	is(t, "Muls of the tune", e.Tune.Muls(), 25)
	e.Engine.Mul(same(9, 4), same(5, 4))
	is(t, "Muls", e.Muls(), 42)
	is(t, "Deep", e.Deep(), 1)
	is(t, "Spend", e.Spend(5), 47)
	is(t, "Route", e.Route(9, 9), table.Kara)
	is(t, "Enter", e.Enter(), 1)
	is(t, "Enter", e.Enter(), 2)
	is(t, "Now", e.Now(), 2)
	is(t, "Leave", e.Leave(), 1)
	is(t, "Deep", e.Deep(), 2)
	e.Reset()
	is(t, "Muls", e.Muls(), 0)
	is(t, "Now", e.Now(), 0)
	is(t, "Deep", e.Deep(), 0)
}

// P15.1: DivMod and Halves

func TestExample(t *testing.T) {
	byEach(t, func(t *testing.T, x api.Table) {
		e := div.New(x)
		q, r, err := e.DivMod(api.Nat{7}, api.Nat{9})
		fine(t, "7 by 9", err)
		words(t, "the quotient", q, nil)
		words(t, "the remainder", r, api.Nat{7})
	})
}

// Quotients that are told by numbers, at tables of all ways.
func TestByHand(t *testing.T) {
	byEach(t, func(t *testing.T, x api.Table) {
		e := div.New(x)
		for _, c := range []struct{ a, b, q, r api.Nat }{
			{nil, api.Nat{1}, nil, nil},
			{nil, api.Nat{5, 6, 7, 8, 9}, nil, nil},
			{api.Nat{5}, api.Nat{1}, api.Nat{5}, nil},
			{api.Nat{8}, api.Nat{9}, nil, api.Nat{8}},
			{api.Nat{9}, api.Nat{9}, api.Nat{1}, nil},
			{api.Nat{10}, api.Nat{9}, api.Nat{1}, api.Nat{1}},
			{api.Nat{0, 1}, api.Nat{3}, api.Nat{most / 3}, api.Nat{1}},
			{same(most, 8), same(most, 4), api.Nat{1, 0, 0, 0, 1}, nil},
			{above(same(most, 4), 4), same(most, 4), api.Nat{0, 0, 0, 0, 1}, nil},
			{above(api.Nat{1}, 8), same(most, 4), api.Nat{1, 0, 0, 0, 1}, api.Nat{1}},
			{above(api.Nat{1}, 8), api.Nat{1, 0, 0, 1}, api.Nat{0, 0, most, most, most}, api.Nat{0, 0, 1}},
			{above(api.Nat{7}, 8), api.Nat{0, 0, 0, 1}, api.Nat{0, 0, 0, 0, 0, 7}, nil},
			{under(same(most, 8), 6), api.Nat{0, 0, 0, 1}, api.Nat{most, most, most, most, most, 6}, same(most, 3)},
			{api.Nat{5, 16, 34, 60, 61, 52, 32}, api.Nat{1, 2, 3, 4}, api.Nat{5, 6, 7, 8}, nil},
			{api.Nat{6, 18, 34, 60, 61, 52, 32}, api.Nat{1, 2, 3, 4}, api.Nat{5, 6, 7, 8}, api.Nat{1, 2}},
		} {
			told := fmt.Sprintf("%v by %v", c.a, c.b)
			for more := range 3 {
				for _, f := range []func(a, b api.Nat) (q, r api.Nat, err api.Errno){e.DivMod, e.Halves} {
					q, r, err := f(topped(c.a, more), topped(c.b, more))
					fine(t, told, err)
					words(t, told, q, c.q)
					words(t, told, r, c.r)
				}
			}
		}
	})
}

// Each call by 0, however it is written, whatever is divided: nothing stands beside the error, and nothing is spent.
func TestByZero(t *testing.T) {
	byEach(t, func(t *testing.T, x api.Table) {
		e := div.New(x)
		s := source(8)
		e.Spend(3)
		e.Enter()
		for _, zero := range zeros() {
			for _, a := range append(zeros(), api.Nat{1}, api.Nat{5}, s.row(4), s.row(9), s.row(100), topped(s.row(12), 3)) {
				q, r, err := e.DivMod(a, zero)
				refused(t, "DivMod", err, api.ErrZero, q, r)
				q, r, err = e.Halves(a, zero)
				refused(t, "Halves", err, api.ErrZero, q, r)
				q, err = e.Exact(a, zero)
				refused(t, "Exact", err, api.ErrZero, q)
				for _, l := range [][]api.Nat{nil, {a}, {zero}, {a, zero}, {{5}, a}} {
					is, err := e.Divides(zero, l...)
					refused(t, "Divides", err, api.ErrZero)
					if is {
						t.Fatal("Divides: beside the error stands true")
					}
				}
			}
		}
		is(t, "Muls", e.Muls(), 3)
		is(t, "Now", e.Now(), 1)
		is(t, "Deep", e.Deep(), 1)
		is(t, "Div", e.Div, table.Clamp(x).Div)
		check(t, e, same(most, 30), same(3, 12))
	})
}

// Small numbers, all of them.
func TestSmallNumbers(t *testing.T) {
	e := div.New(api.Table{})
	for a := range uint64(90) {
		for b := uint64(1); b < 90; b++ {
			q, r, err := e.DivMod(api.Nat{a}, api.Nat{b})
			fine(t, "DivMod", err)
			words(t, "the quotient", q, limb.One(a/b))
			words(t, "the remainder", r, limb.One(a%b))
		}
	}
}

// Below, at and above the divisor, at rows of all kinds.
func TestBelowAtAbove(t *testing.T) {
	byEach(t, func(t *testing.T, x api.Table) {
		e := div.New(x)
		for _, m := range []int{1, 2, 3, 4, 5, 8, 13, 40} {
			for _, b := range rows(m) {
				list := []api.Nat{nil, {1}, minus(b, 1), b, plus(b, 1), minus(product(b, api.Nat{2}), 1), product(b, api.Nat{2}), b[:m-1], b[m/2:], under(b, 1), above(b, 1), limb.Shr(b, 1)}
				for _, a := range list {
					check(t, e, a, b)
				}
			}
		}
	})
}

// By 1 each number is its own quotient.
func TestByOne(t *testing.T) {
	byEach(t, func(t *testing.T, x api.Table) {
		e := div.New(x)
		for _, n := range []int{1, 2, 4, 7, 30, 300} {
			for _, a := range rows(n) {
				for _, one := range []api.Nat{{1}, {1, 0}, topped(api.Nat{1}, 90)} {
					check(t, e, a, one)
					q, r, _ := e.DivMod(a, one)
					words(t, "the quotient", q, a)
					words(t, "the remainder", r, nil)
				}
			}
		}
	})
}

// Rows of all kinds by rows of all kinds.
func TestAllKinds(t *testing.T) {
	byEach(t, func(t *testing.T, x api.Table) {
		e := div.New(x)
		for _, l := range [][2]int{{1, 1}, {2, 1}, {2, 2}, {5, 3}, {7, 4}, {8, 4}, {9, 4}, {10, 5}, {12, 6}, {13, 7}, {16, 4}, {22, 11}, {23, 8}, {29, 13}, {40, 20}} {
			for _, a := range rows(l[0]) {
				for _, b := range rows(l[1]) {
					check(t, e, a, b)
				}
			}
		}
	})
}

// All lengths to some dozens, even and odd, shorter than the divisor, up to twice as long, and far longer.
func TestLengths(t *testing.T) {
	byEach(t, func(t *testing.T, x api.Table) {
		e := div.New(x)
		s := source(9)
		for n := range 46 {
			for m := 1; m < 48; m++ {
				check(t, e, s.row(n), s.row(m))
			}
		}
		for m := 1; m < 60; m += 1 + m/7 {
			for _, n := range []int{3*m - 1, 3 * m, 4*m + 1, 9*m + 2, 20 * m} {
				check(t, e, s.row(n), s.row(m))
			}
		}
	})
}

// Powers of two, and the numbers next to them, by such numbers.
func TestPowersOfTwo(t *testing.T) {
	byEach(t, func(t *testing.T, x api.Table) {
		e := div.New(x)
		for m := 1; m < 1500; m += 37 + m/9 {
			for _, n := range []int{m - 1, m, m + 63, m + 64, m + 255, m + 256, m + 257, 2*m - 1, 2 * m, 2*m + 1, 2*m + 64, 3*m + 5} {
				for i := range 3 {
					a, b := plus(power(n), int64(i-1)), power(m)
					check(t, e, a, b)
					check(t, e, a, plus(b, 1))
					check(t, e, a, minus(b, 1))
				}
			}
		}
	})
}

// quotients are those of k words: powers of two and one less, the greatest words, noughts within, and any.
func quotients(s *source, k int) []api.Nat {
	within := s.row(k)
	clear(within[k/3 : k-1])
	return []api.Nat{power(64*k - 64), power(64*k - 1), minus(power(64*k), 1), minus(power(64*k-1), 1), power(64*k - 33), minus(power(64*k-33), 1), plus(power(64*k-64), 1), within, s.row(k)}
}

// Quotients of all kinds, with the least and the greatest remainders.
func TestQuotientsAndRemainders(t *testing.T) {
	byEach(t, func(t *testing.T, x api.Table) {
		e := div.New(x)
		s := source(10)
		for _, m := range []int{1, 3, 4, 5, 8, 12, 25} {
			for _, b := range append(rows(m)[1:7], under(s.row(m-1), 1), under(s.row(m-1), most)) {
				for _, k := range []int{1, 3, 4, 5, 8, 13, 24} {
					for _, q := range quotients(&s, k) {
						for _, r := range rests(&s, b) {
							check(t, e, back(q, b, r), b)
						}
					}
				}
			}
		}
	})
}

// Divisors of each top word, above rows of all kinds.
func TestTopWords(t *testing.T) {
	byEach(t, func(t *testing.T, x api.Table) {
		e := div.New(x)
		s := source(11)
		for _, m := range []int{3, 4, 7, 12} {
			for _, low := range rows(m) {
				for _, top := range tops() {
					b := under(low, top)
					for _, n := range []int{m + 4, m + 5, 2*m + 1, 2*m + 2, 2*m + 3, 3 * m} {
						check(t, e, s.row(n), b)
						check(t, e, same(most, n), b)
					}
				}
			}
		}
	})
}

// Some hundreds of words, even and odd, and far more than the divisor has.
func TestHundreds(t *testing.T) {
	byEach(t, func(t *testing.T, x api.Table) {
		e := div.New(x)
		s := source(12)
		for _, m := range []int{64, 99, 200, 301} {
			for _, b := range append(rows(m)[1:3], under(s.row(m-1), 1)) {
				for _, n := range []int{m + 40, 2*m - 1, 2 * m, 3*m + 9} {
					check(t, e, s.row(n), b)
				}
				check(t, e, product(s.row(m+1), b), b)
				check(t, e, back(same(most, m), b, minus(b, 1)), b)
			}
		}
		check(t, e, s.row(1500), s.row(5))
		check(t, e, s.row(1501), s.row(23))
	})
}

// The greatest lengths.
func TestGreatest(t *testing.T) {
	byFew(t, func(t *testing.T, x api.Table) {
		e := div.New(x)
		s := source(13)
		for _, m := range []int{1, 5, 100, 1025, 4096, 8191, 16000, api.MaxWords - 1, api.MaxWords} {
			checkDivMod(t, e, s.row(api.MaxWords), s.row(m))
		}
		for _, b := range []api.Nat{same(most, 4095), power(64*8192 - 1), plus(power(64*8191), 1), same(most, 8192), same(most, api.MaxWords)} {
			checkDivMod(t, e, same(most, api.MaxWords), b)
		}
		check(t, e, same(most, api.MaxWords), s.row(8192))
		check(t, e, s.row(api.MaxWords), s.row(700))
	})
}

// Products of what may be handed in are longer than that, and layers above divide them: they are divided all the same.
func TestBeyondTheLimits(t *testing.T) {
	byFew(t, func(t *testing.T, x api.Table) {
		e := div.New(x)
		s := source(14)
		for _, l := range [][2]int{
			{api.MaxWords + 1, 5}, {api.MaxWords + 1, 8192}, {api.MaxWords + 1, 8193}, {api.MaxWords + 9, api.MaxWords}, {2*api.MaxWords - 1, api.MaxWords},
			{3 * api.MaxWords, 100}, {2*api.MaxWords + 900, api.MaxWords + 444}, {4 * api.MaxWords, 2*api.MaxWords + 9},
		} {
			a, b := s.row(l[0]), s.row(l[1])
			e.Reset()
			q, r, err := e.DivMod(a, b)
			if l[1] > 1024 && l[0]-l[1] > 1024 && e.Muls() >= longCost(a, b) {
				t.Errorf("%v: %d are spent, by Long %d", l, e.Muls(), longCost(a, b))
			}
			is(t, "Now", e.Now(), 0)
			holds(t, e, fmt.Sprint(l), a, b, q, r, err)
		}
	})
}

// spills are numbers whose upper words are b's own, or next to them, above k words of all kinds: there the upper half of b goes into them more often than a half has room for.
func spills(b api.Nat, k int) []api.Nat {
	h := len(b) / 2
	upper := above(b[h:], h)
	tops := []api.Nat{minus(b, 1), b, plus(b, 1), upper, plus(upper, 1), minus(upper, 1), slices.Concat(same(most, h), b[h:]), limb.Shr(b, 64*h), above(b[len(b)-1:], len(b)-1)}
	var list []api.Nat
	for _, top := range tops {
		for _, low := range []api.Nat{same(0, k), same(most, k), slices.Concat(same(0, k-k/2), same(most, k/2)), slices.Concat(same(most, k-k/2), same(0, k/2))} {
			list = append(list, slices.Concat(low, top))
		}
	}
	return list
}

// Where a half's quotient spills over, in halves and by the other ways.
func TestSpills(t *testing.T) {
	list := []api.Table{{}, table.Least(4, 12, 64, 4, 4096), table.Least(64, 99, 999, 6, 4096), table.Least(9, 30, 150, 7, 11), table.Least(5, 13, 65, 5, 20)}
	byAll(t, list, func(t *testing.T, x api.Table) {
		e := div.New(x)
		s := source(15)
		for _, m := range []int{4, 5, 6, 7, 8, 9, 12, 17, 32} {
			for _, b := range []api.Nat{
				same(most, m), s.row(m), slices.Concat(same(most, m-1), api.Nat{half}), slices.Concat(same(most, m/2), same(0, m-m/2-1), api.Nat{half}),
				slices.Concat(same(0, m/2), same(most, m-m/2)), slices.Concat(same(most, m/2), s.row(m-m/2)), under(same(most, m-1), 1), under(same(0, m-1), 1),
			} {
				for _, k := range []int{m / 2, m - m/2, m, m + 1} {
					for _, a := range spills(b, k) {
						check(t, e, a, b)
					}
				}
			}
		}
	})
}

// Zero words on top are nothing: they change neither the answer nor the way that is gone.
func TestZeroWordsOnTop(t *testing.T) {
	byEach(t, func(t *testing.T, x api.Table) {
		e := div.New(x)
		s := source(16)
		for _, l := range [][2]int{{0, 1}, {1, 1}, {3, 9}, {7, 3}, {7, 4}, {8, 4}, {12, 5}, {24, 12}, {33, 9}, {70, 35}, {100, 7}} {
			a, b := s.row(l[0]), s.row(l[1])
			q, r := checkDivMod(t, e, a, b)
			spent, deep := e.Muls(), e.Deep()
			checkHalves(t, e, a, b, q, r)
			both, deeper := e.Muls(), e.Deep()
			for _, more := range [][2]int{{1, 0}, {0, 1}, {2, 3}, {9, 1}, {90, 70}, {1, 5000}} {
				a, b := topped(a, more[0]), topped(b, more[1])
				checkDivMod(t, e, a, b)
				is(t, "Muls", e.Muls(), spent)
				is(t, "Deep", e.Deep(), deep)
				checkHalves(t, e, a, b, q, r)
				is(t, "Muls with those of Halves", e.Muls(), both)
				is(t, "Deep with that of Halves", e.Deep(), deeper)
			}
		}
	})
}

// P15.1: the three ways

// Ways of a division.
const (
	long = iota
	reciprocal
	halves
)

// wayOf tells by what was spent and entered which way DivMod goes, where products are by hand, which enter no level.
func wayOf(e *div.Engine, a, b api.Nat) int {
	e.Reset()
	e.DivMod(a, b)
	switch {
	case e.Deep() > 0:
		return halves
	case e.Muls() == longCost(a, b):
		return long
	}
	return reciprocal
}

// By Long, if b or the quotient has fewer than Div words; by a reciprocal, if b has Recip words at least; else by Halves. The quotient's length is its own, not what both lengths let guess.
func TestWays(t *testing.T) {
	for _, x := range [][2]int{{4, 4}, {4, 5}, {4, 7}, {5, 9}, {7, 4}, {9, 13}, {6, 4096}, {1024, 4}, {20, 21}} {
		e := div.New(table.Least(64, 8192, 16384, x[0], x[1]))
		s := source(17)
		for m := 1; m < 26; m++ {
			b := s.row(m)
			for k := 1; k < 30; k++ {
				asked := halves
				switch {
				case m < x[0] || k < x[0]:
					asked = long
				case m >= x[1]:
					asked = reciprocal
				}
				for _, q := range []api.Nat{power(64*k - 64), minus(power(64*k), 1), s.row(k)} {
					a := back(q, b, minus(b, 1))
					is(t, fmt.Sprintf("Div %d, Recip %d: the way of %d words, a quotient of %d", x[0], x[1], m, k), wayOf(e, a, b), asked)
				}
			}
			is(t, "the way of what is below b", wayOf(e, minus(b, 1), b), long)
			is(t, "the way of what is far below b", wayOf(e, api.Nat{1}, b), long)
		}
	}
}

// By a reciprocal goes what Recip and By spend together, where the quotient is no longer than b.
func TestReciprocalSpends(t *testing.T) {
	s := source(18)
	for _, l := range [][2]int{{8, 4}, {9, 5}, {10, 5}, {20, 10}, {21, 11}, {30, 25}, {100, 50}, {130, 90}, {300, 150}, {api.MaxWords, 8192}, {api.MaxWords, 8200}, {api.MaxWords, 16000}} {
		for _, top := range []uint64{half, most} {
			a, b := under(s.row(l[0]-1), most-1), under(s.row(l[1]-1), top)
			if q, _ := parted(a, b); len(q) > l[1] {
				continue
			}
			e, other := div.New(api.Table{}), recip.New(api.Table{})
			checkDivMod(t, e, a, b)
			v, _ := other.Recip(b, a.Bits())
			other.By(a, b, v, a.Bits())
			is(t, fmt.Sprintf("%v: Muls", l), e.Muls(), other.Muls())
		}
	}
}

// However long a is, one reciprocal of b's own length is enough: each further piece costs a By.
func TestOneReciprocal(t *testing.T) {
	s := source(19)
	for _, m := range []int{4, 9, 40, 100} {
		b := under(s.row(m-1), most)
		for _, pieces := range []int{2, 3, 7, 20} {
			e, other := div.New(api.Table{}), recip.New(api.Table{})
			n := 64 * 2 * m
			v, _ := other.Recip(b, n)
			reckoned := other.Muls()
			other.Reset()
			other.By(back(same(most, m), b, minus(b, 1)), b, v, n)
			checkDivMod(t, e, back(same(most, pieces*m), b, minus(b, 1)), b)
			if at := reckoned + pieces*other.Muls(); e.Muls() > at || 2*e.Muls() < at {
				t.Errorf("%d words, %d pieces: %d are spent, a reciprocal and as many Bys are %d", m, pieces, e.Muls(), at)
			}
		}
	}
}

// In halves, with products in two pieces, twice the length costs about three times as much, where Long costs four times.
func TestHalvesSpend(t *testing.T) {
	e := div.New(table.Least(4, 8192, 16384, 4, 4096))
	s := source(20)
	before := 0
	for m := 64; m <= 1024; m *= 2 {
		a, b := back(s.row(m), s.row(m), nil), s.row(m)
		e.Reset()
		e.Halves(a, b)
		if before > 0 && 10*e.Muls() > 35*before {
			t.Errorf("%d words: %d are spent, by half as many %d", m, e.Muls(), before)
		}
		if before = e.Muls(); m >= 512 && 2*before > longCost(a, b) {
			t.Errorf("%d words: %d are spent, by Long %d", m, before, longCost(a, b))
		}
	}
}

// Halves goes down to Div words: each halving enters a level, and below Div words, of b or of the quotient, there is none.
func TestHalvesLevels(t *testing.T) {
	s := source(21)
	for _, c := range []struct{ least, m, k, asked int }{
		{4, 3, 9, 0}, {4, 4, 3, 0}, {4, 4, 4, 1}, {4, 4, 50, 1}, {4, 5, 5, 1}, {4, 6, 6, 1}, {4, 7, 7, 1}, {4, 8, 8, 2}, {4, 15, 15, 3}, {4, 16, 16, 3}, {4, 17, 17, 3}, {4, 32, 32, 4},
		{8, 7, 20, 0}, {8, 20, 7, 0}, {8, 8, 8, 1}, {8, 16, 16, 2}, {8, 32, 32, 3}, {16, 32, 32, 2}, {1024, 40, 40, 0}, {33, 32, 40, 0}, {32, 32, 32, 1},
	} {
		e := div.New(table.Least(64, 8192, 16384, c.least, 4096))
		for _, q := range []api.Nat{same(5, c.k), same(half, c.k)} {
			b := s.row(c.m)
			a := back(q, b, nil)
			e.Reset()
			e.Halves(a, b)
			is(t, fmt.Sprintf("%v: Deep", c), e.Deep(), c.asked)
			if c.asked == 0 {
				is(t, fmt.Sprintf("%v: Muls", c), e.Muls(), longCost(a, b))
			}
		}
	}
}

// Where Halves is asked for what is short, Long goes, of both as they are.
func TestHalvesOfShort(t *testing.T) {
	s := source(26)
	for _, l := range [][2]int{{5, 9}, {9, 3}, {40, 3}, {7, 5}, {12, 10}, {33, 31}, {100, 98}} {
		for _, top := range tops() {
			a, b := under(s.row(l[0]-1), most), under(s.row(l[1]-1), top)
			for more := range 3 {
				e := div.New(table.Least(4, 12, 64, 4, 4096))
				e.Halves(topped(a, 5*more), topped(b, more))
				is(t, fmt.Sprintf("%v: Muls", l), e.Muls(), longCost(a, b))
				is(t, fmt.Sprintf("%v: Deep", l), e.Deep(), 0)
			}
		}
	}
}

// P15.3: what is spent, and levels

// At each way, at all small lengths and some greater ones; what checkDivMod holds.
func TestSpentAtMost(t *testing.T) {
	byEach(t, func(t *testing.T, x api.Table) {
		e := div.New(x)
		s := source(22)
		for n := range 30 {
			for m := 1; m <= n+1; m++ {
				checkDivMod(t, e, same(most, n), s.row(m))
				checkDivMod(t, e, s.row(n), under(s.row(m-1), 1))
			}
		}
		for n := 30; n < 300; n += 1 + n/9 {
			for m := 1; m <= n; m += 1 + m/5 {
				checkDivMod(t, e, s.row(n), s.row(m))
			}
		}
		for n := 31; n < 1100; n += 1 + n {
			checkDivMod(t, e, s.row(n), s.row(n/2))
			checkDivMod(t, e, s.row(n+1), s.row((n+1)/2))
		}
	})
}

// Behind each call the level is as it was, whatever was entered before.
func TestLevelIsLeft(t *testing.T) {
	byEach(t, func(t *testing.T, x api.Table) {
		e := div.New(x)
		s := source(23)
		for n := range 60 {
			level := e.Enter()
			a, b := s.row(n), s.row(n/2+1)
			e.DivMod(a, b)
			is(t, "DivMod: Now", e.Now(), level)
			e.Halves(a, b)
			is(t, "Halves: Now", e.Now(), level)
			e.Exact(a, b)
			is(t, "Exact: Now", e.Now(), level)
			e.Mod(a, b, s.row(3), s.row(n/3+1), b)
			is(t, "Mod: Now", e.Now(), level)
			e.Divides(b, a, s.row(n), product(a, b))
			is(t, "Divides: Now", e.Now(), level)
		}
	})
}

// T2, T6: tables and ways

// Every two tables' answers are one.
func TestTablesAgree(t *testing.T) {
	s := source(24)
	var engines []*div.Engine
	for _, x := range tables() {
		engines = append(engines, div.New(x))
	}
	for m := 1; m < 200; m += 1 + m/6 {
		for _, n := range []int{m - 1, m + 3, m + 9, 2 * m, 2*m + 1, 4*m + 5} {
			a, b := s.row(n), s.row(m)
			q, r, _ := engines[0].DivMod(a, b)
			list, _ := engines[0].Mod(a, b, s.row(2), b)
			for _, e := range engines[1:] {
				otherQ, otherR, err := e.DivMod(a, b)
				fine(t, "DivMod", err)
				words(t, "the quotient", otherQ, q)
				words(t, "the remainder", otherR, r)
				other, err := e.Mod(a, b, list[1], b)
				if list[1].Zero() {
					refused(t, "Mod", err, api.ErrZero, other...)
					continue
				}
				fine(t, "Mod", err)
				words(t, "Mod", other[0], list[0])
				words(t, "Mod", other[2], list[2])
			}
		}
	}
}

// By Long, by a reciprocal, in halves: one answer.
func TestWaysAgree(t *testing.T) {
	byEach(t, func(t *testing.T, x api.Table) {
		e := div.New(x)
		s := source(25)
		for m := 1; m < 150; m += 1 + m/5 {
			for _, n := range []int{m - 1, m, m + 4, 2*m - 1, 2 * m, 2*m + 1, 3*m + 4} {
				a, b := s.row(n), s.row(m)
				q, r, err := e.Long(a, b)
				fine(t, "Long", err)
				v, _ := e.Recip(b, 64*n)
				otherQ, otherR, err := e.By(a, b, v, 64*n)
				fine(t, "By", err)
				words(t, "By: the quotient", otherQ, q)
				words(t, "By: the remainder", otherR, r)
				otherQ, otherR, err = e.Halves(a, b)
				fine(t, "Halves", err)
				words(t, "Halves: the quotient", otherQ, q)
				words(t, "Halves: the remainder", otherR, r)
				otherQ, otherR, err = e.DivMod(a, b)
				fine(t, "DivMod", err)
				words(t, "DivMod: the quotient", otherQ, q)
				words(t, "DivMod: the remainder", otherR, r)
			}
		}
	})
}
