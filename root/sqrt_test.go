package root_test

import (
	"fmt"
	"slices"
	"testing"

	"ziggurat/api"
	"ziggurat/limb"
	"ziggurat/root"
	"ziggurat/table"
)

// P16.1: Sqrt and Square

func TestSqrtExample(t *testing.T) {
	byEach(t, func(t *testing.T, x api.Table) {
		e := root.New(x)
		s, r := e.Sqrt(api.Nat{10})
		words(t, "Sqrt of 10", s, api.Nat{3})
		words(t, "what is left", r, api.Nat{1})
	})
}

// Roots that are told by numbers, with and without zero words on top.
func TestSqrtByHand(t *testing.T) {
	byEach(t, func(t *testing.T, x api.Table) {
		e := root.New(x)
		for _, c := range []struct{ a, s, r api.Nat }{
			{nil, nil, nil},
			{api.Nat{1}, api.Nat{1}, nil},
			{api.Nat{2}, api.Nat{1}, api.Nat{1}},
			{api.Nat{3}, api.Nat{1}, api.Nat{2}},
			{api.Nat{4}, api.Nat{2}, nil},
			{api.Nat{8}, api.Nat{2}, api.Nat{4}},
			{api.Nat{most}, api.Nat{1<<32 - 1}, api.Nat{1<<33 - 2}},
			{api.Nat{0, 1}, api.Nat{1 << 32}, nil},
			{api.Nat{most, 1}, api.Nat{6074000999}, api.Nat{11566105230}},
			{api.Nat{0, 0, 1}, api.Nat{0, 1}, nil},
			{same(most, 2), api.Nat{most}, api.Nat{most - 1, 1}},
			{same(most, 4), same(most, 2), api.Nat{most - 1, most, 1}},
			{same(most, 20), same(most, 10), slices.Concat(api.Nat{most - 1}, same(most, 9), api.Nat{1})},
			{above(api.Nat{1}, 40), above(api.Nat{1}, 20), nil},
			{above(api.Nat{1}, 41), above(api.Nat{1 << 32}, 20), nil},
			{api.Nat{1, 4, 10, 20, 25, 24, 16}, api.Nat{1, 2, 3, 4}, nil},
			{api.Nat{6, 4, 10, 20, 25, 24, 16}, api.Nat{1, 2, 3, 4}, api.Nat{5}},
		} {
			for more := range 3 {
				told := fmt.Sprintf("Sqrt of %v, %d zero words", c.a, more)
				s, r := e.Sqrt(topped(c.a, more))
				words(t, told, s, c.s)
				words(t, told+": what is left", r, c.r)
				check(t, e, topped(c.a, more), 3)
			}
		}
	})
}

// 0, however it is written: it is a square, and nothing is spent.
func TestSqrtOfZero(t *testing.T) {
	byEach(t, func(t *testing.T, x api.Table) {
		e := root.New(x)
		for _, zero := range zeros() {
			s, r := e.Sqrt(zero)
			words(t, "Sqrt", s, nil)
			words(t, "what is left", r, nil)
			s, ok := e.Square(zero)
			words(t, "Square", s, nil)
			if !ok {
				t.Fatal("0 is no square")
			}
		}
		is(t, "Muls", e.Muls(), 0)
		is(t, "Deep", e.Deep(), 0)
	})
}

// Small numbers, all of them, by counting.
func TestSqrtSmallNumbers(t *testing.T) {
	t.Parallel()
	e := root.New(api.Table{})
	root := uint64(0)
	for a := range uint64(5000) {
		if (root+1)*(root+1) <= a {
			root++
		}
		s, r := e.Sqrt(api.Nat{a})
		words(t, "Sqrt", s, limb.One(root))
		words(t, "what is left", r, limb.One(a-root*root))
		s, ok := e.Square(api.Nat{a})
		if ok != (root*root == a) {
			t.Fatalf("Square: %v of %d", ok, a)
		}
		if !ok {
			words(t, "Square", s, nil)
			continue
		}
		words(t, "Square", s, limb.One(root))
	}
}

// Words that are squares, and next to them, at all sizes; the last of all is the greatest word's.
func TestSqrtOfWords(t *testing.T) {
	t.Parallel()
	e := root.New(api.Table{})
	for bit := 1; bit <= 32; bit++ {
		for far := range uint64(40) {
			for _, x := range []uint64{1<<bit - 1 - far, 1<<(bit-1) + far, (1<<bit - 1) / (far + 1), 1<<bit*3/5 + far} {
				x &= 1<<32 - 1
				for _, a := range []uint64{x*x - 1, x * x, x*x + 1, x*x + x, x*x + 2*x, x*x + 2*x + 1} {
					checkSqrt(t, e, api.Nat{a})
					checkSquare(t, e, api.Nat{a})
				}
			}
		}
	}
}

// Squares of rows of all kinds, and what lies at the edges to the squares next to them.
func TestSqrtAtSquares(t *testing.T) {
	byEach(t, func(t *testing.T, x api.Table) {
		e := root.New(x)
		for _, n := range []int{1, 2, 3, 4, 5, 6, 7, 8, 9, 12, 17, 24, 33, 50} {
			for _, s := range rows(n) {
				twice := product(s, api.Nat{2})
				p := product(s, s)
				last := together(p, twice)
				for _, a := range []api.Nat{minus(p, 1), p, plus(p, 1), plus(p, 2), together(p, s), minus(last, 1), last, plus(last, 1), plus(last, 2)} {
					checkSqrt(t, e, a)
					checkSqrt(t, e, topped(a, 1+n%3))
					checkSquare(t, e, a)
				}
				answer, ok := e.Square(topped(p, n%3))
				words(t, "Square", answer, s)
				if !ok {
					t.Fatalf("the square of %x is none", s)
				}
			}
		}
	})
}

// Rows of all kinds, at all lengths to some dozens, even and odd.
func TestSqrtAllKinds(t *testing.T) {
	byEach(t, func(t *testing.T, x api.Table) {
		e := root.New(x)
		for n := 1; n < 50; n++ {
			for _, a := range rows(n) {
				checkSqrt(t, e, a)
				checkSqrt(t, e, topped(a, n%4))
				checkSquare(t, e, a)
			}
		}
	})
}

// Each top word above rows of all kinds: there the root's highest digit lies at each place.
func TestSqrtTopWords(t *testing.T) {
	byEach(t, func(t *testing.T, x api.Table) {
		e := root.New(x)
		for _, n := range []int{1, 2, 3, 4, 7, 8, 15, 22} {
			for _, low := range rows(n) {
				for _, top := range tops() {
					checkSqrt(t, e, under(low, top))
				}
			}
		}
	})
}

// Powers of two, and the numbers next to them.
func TestSqrtPowersOfTwo(t *testing.T) {
	byEach(t, func(t *testing.T, x api.Table) {
		e := root.New(x)
		for n := 1; n < 2600; n += 1 + n/70 {
			for i := range 5 {
				checkSqrt(t, e, plus(power(n), int64(i-2)))
				checkSquare(t, e, plus(power(n), int64(i-2)))
			}
		}
	})
}

// Some hundreds of words, even and odd.
func TestSqrtHundreds(t *testing.T) {
	byEach(t, func(t *testing.T, x api.Table) {
		e := root.New(x)
		s := source(9)
		for _, n := range []int{64, 65, 99, 128, 200, 301, 400, 513, 700} {
			for _, a := range rows(n)[1:5] {
				checkSqrt(t, e, a)
			}
			p := s.row(n / 2)
			square := product(p, p)
			for i := range 3 {
				checkSqrt(t, e, plus(square, int64(i-1)))
				checkSquare(t, e, plus(square, int64(i-1)))
			}
			checkSqrt(t, e, together(square, product(p, api.Nat{2})))
		}
	})
}

// The greatest lengths.
func TestSqrtGreatest(t *testing.T) {
	byFew(t, func(t *testing.T, x api.Table) {
		e := root.New(x)
		s := source(10)
		for _, a := range []api.Nat{s.row(api.MaxWords), s.row(api.MaxWords - 1), same(most, api.MaxWords), power(64*api.MaxWords - 1), power(64*api.MaxWords - 2), topped(s.row(3000), api.MaxWords-3000)} {
			e.Reset()
			e.Sqrt(a)
			if n := (a.Len() + 1) / 2; e.Muls() > 30*table.Square(e.Table, n) {
				t.Errorf("%d words: %d are spent, by the root's square %d", a.Len(), e.Muls(), table.Square(e.Table, n))
			}
			checkSqrt(t, e, a)
		}
		p := s.row(api.MaxWords / 2)
		square := product(p, p)
		checkSquare(t, e, square)
		checkSquare(t, e, minus(square, 1))
		checkSquare(t, e, plus(square, 1))
	})
}

// Products of what may be handed in are longer than that: they have roots all the same.
func TestSqrtBeyondTheLimits(t *testing.T) {
	byAll(t, []api.Table{{}, table.Least(32, 100, 1000, 24, 100)}, func(t *testing.T, x api.Table) {
		e := root.New(x)
		s := source(11)
		for _, n := range []int{api.MaxWords + 1, 2*api.MaxWords + 1, 4*api.MaxWords + 7} {
			checkSqrt(t, e, s.row(n))
		}
	})
}

// Numbers that are none of any: 1 less and 2 more than a square, and those that differ from one by what many small numbers divide, so that modulo these they are squares.
func TestSquareOfNone(t *testing.T) {
	const many = 64 * 9 * 25 * 7 * 11 * 13 * 17 * 19 * 23 * 29 * 31
	byEach(t, func(t *testing.T, x api.Table) {
		e := root.New(x)
		source := source(12)
		for n := 1; n < 60; n += 1 + n/6 {
			for _, s := range append(rows(n), source.row(n), under(source.row(n), 7)) {
				p := product(s, s)
				for _, a := range []api.Nat{minus(p, 1), plus(p, 2), plus(p, many), together(p, api.Nat{0, many}), product(p, api.Nat{2}), product(p, api.Nat{many + 1}), product(s, together(s, api.Nat{many})), product(s, plus(s, 1))} {
					checkSquare(t, e, a)
					checkSquare(t, e, topped(a, 2))
				}
			}
			s := under(source.row(n), 5)
			for _, far := range []int64{-many, -64, -2, -1, 1, 2, 3, 64, many, 2 * many, 1 << 50} {
				answer, ok := e.Square(plus(product(s, s), far))
				if ok || len(answer) != 0 {
					t.Fatalf("%x: %d beside its square is one, of %x", s, far, answer)
				}
			}
		}
	})
}

// By halves: with products in two pieces twice the length costs about three times as much, and a square costs no more than some squares of its root.
func TestSqrtSpends(t *testing.T) {
	s := source(13)
	e := root.New(table.Least(4, 8192, 16384, 4, 4096))
	before := 0
	for n := 64; n <= 2048; n *= 2 {
		e.Reset()
		e.Sqrt(under(s.row(n-1), most))
		if before > 0 && 10*e.Muls() > 35*before {
			t.Errorf("%d words: %d are spent, by half as many %d", n, e.Muls(), before)
		}
		before = e.Muls()
	}
	byEach(t, func(t *testing.T, x api.Table) {
		e, other := root.New(x), root.New(x)
		for n := 2; n < 300; n += 1 + n/5 {
			e.Reset()
			other.Reset()
			e.Sqrt(same(most, 2*n))
			other.Sqr(same(most, n))
			if e.Muls() > 30*other.Muls() {
				t.Errorf("%d words: %d are spent, by the root's square %d", 2*n, e.Muls(), other.Muls())
			}
		}
	})
}
