package kara_test

import (
	"math"
	"math/big"
	"slices"
	"testing"

	"ziggurat/api"
	"ziggurat/kara"
	"ziggurat/school"
	"ziggurat/table"
)

const (
	half = uint64(1) << 63
	most = ^uint64(0)
)

// source is a row of words that is the same in every run; each fourth or so is at an edge.
type source uint64

func (s *source) next() uint64 {
	*s = *s*6364136223846793005 + 1442695040888963407
	x := uint64(*s)
	x ^= x >> 29
	switch x >> 59 {
	case 0, 1:
		return 0
	case 2, 3:
		return most
	case 4:
		return half
	case 5:
		return x & 3
	case 6:
		return most - x&3
	}
	return x * 0x9e3779b97f4a7c15
}

func (s *source) row(n int) api.Nat {
	a := make(api.Nat, n)
	for i := range a {
		a[i] = s.next()
	}
	return a
}

func same(x uint64, n int) api.Nat { return slices.Repeat(api.Nat{x}, n) }

// rows are rows of n words, of all kinds: any, the greatest words, noughts, a lone word at either end, and noughts on top and at the bottom of each piece that is cut behind h words.
func rows(n, h int) []api.Nat {
	s := source(70 + n)
	h = min(h, n)
	list := []api.Nat{s.row(n), s.row(n), same(most, n), make(api.Nat, n), same(half, n), same(1, n)}
	for _, cleared := range [][2]int{{0, h}, {h, n}, {0, h / 2}, {h / 2, h}, {h, (h + n) / 2}, {(h + n) / 2, n}} {
		a := same(most, n)
		clear(a[cleared[0]:cleared[1]])
		list = append(list, a)
	}
	for _, place := range []int{0, h - 1, h, n - 1} {
		if place >= 0 && place < n {
			a := make(api.Nat, n)
			a[place] = most
			list = append(list, a)
		}
	}
	return list
}

// What is asked, reckoned by the library's great numbers alone.

// great is the number that has these words.
func great(a api.Nat) *big.Int {
	list := make([]byte, 0, 8*len(a))
	for _, w := range slices.Backward(a) {
		for place := 56; place >= 0; place -= 8 {
			list = append(list, byte(w>>place))
		}
	}
	return new(big.Int).SetBytes(list)
}

// wordsOf are a number's words, n of them; of n below 0, as many as it has without noughts on top.
func wordsOf(x *big.Int, n int) api.Nat {
	if n < 0 {
		n = (x.BitLen() + 63) / 64
	}
	row := make(api.Nat, n)
	list := x.FillBytes(make([]byte, 8*n))
	for i := range list {
		row[n-1-i/8] = row[n-1-i/8]<<8 | uint64(list[i])
	}
	return row
}

// product is a b, without noughts on top.
func product(a, b api.Nat) api.Nat {
	return wordsOf(new(big.Int).Mul(great(a), great(b)), -1)
}

func square(a api.Nat) api.Nat { return product(a, a) }

// padded is a product that has noughts on top.
func padded(a, b api.Nat) api.Nat { return append(product(a, b), 0, 0) }

// piecesOf are the low piece of h words, the high one, and their sum in h + 1 words.
func piecesOf(a api.Nat, h int) [3]api.Nat {
	low, high := great(a[:h]), great(a[h:])
	return [3]api.Nat{wordsOf(low, h), wordsOf(high, len(a)-h), wordsOf(low.Add(low, high), h+1)}
}

// is holds one answer against what is asked.
func is(t *testing.T, told string, answer, asked int) {
	t.Helper()
	if answer != asked {
		t.Errorf("%s: %d; asked is %d", told, answer, asked)
	}
}

// words holds words against those that are asked.
func words(t *testing.T, told string, answer, asked api.Nat) {
	t.Helper()
	if !slices.Equal(answer, asked) {
		t.Fatalf("%s: %x; asked is %x", told, answer, asked)
	}
}

// refused holds a refusal: nothing stands beside false.
func refused(t *testing.T, told string, c api.Nat, ok bool) {
	t.Helper()
	if ok || len(c) != 0 {
		t.Fatalf("%s: %v, %v; asked is false, and nothing beside", told, c, ok)
	}
}

// neverMul and neverSqr are handed in where inner must not be called.
func neverMul(t *testing.T) func(a, b api.Nat) api.Nat {
	return func(a, b api.Nat) api.Nat {
		t.Errorf("inner is called with %d by %d words", len(a), len(b))
		return product(a, b)
	}
}

func neverSqr(t *testing.T) func(a api.Nat) api.Nat {
	return func(a api.Nat) api.Nat {
		t.Errorf("inner is called with %d words", len(a))
		return square(a)
	}
}

// checkKara holds a product, each call of inner, and what the meter says, against what is asked.
func checkKara(t *testing.T, e *kara.Engine, a, b api.Nat, mul func(a, b api.Nat) api.Nat) {
	t.Helper()
	longer, shorter := a, b
	if len(a) < len(b) {
		longer, shorter = b, a
	}
	h := (len(longer) + 1) / 2
	spent, level := e.Muls(), e.Now()
	if len(shorter) <= h {
		c, ok := e.Kara(a, b, neverMul(t))
		refused(t, "Kara", c, ok)
	} else {
		x, y := piecesOf(longer, h), piecesOf(shorter, h)
		calls := 0
		c, ok := e.Kara(a, b, func(p, q api.Nat) api.Nat {
			if calls == 3 {
				t.Fatal("a fourth call of inner")
			}
			words(t, "first", p, x[calls])
			words(t, "second", q, y[calls])
			is(t, "Now within", e.Now(), level+1)
			calls++
			return mul(p, q)
		})
		is(t, "calls", calls, 3)
		if !ok {
			t.Fatalf("Kara of %d by %d words: false", len(a), len(b))
		}
		words(t, "Kara", c, product(a, b))
	}
	is(t, "Now", e.Now(), level)
	is(t, "Muls", e.Muls(), spent)
}

// checkSqr is checkKara of a square.
func checkSqr(t *testing.T, e *kara.Engine, a api.Nat, sqr func(a api.Nat) api.Nat) {
	t.Helper()
	spent, level := e.Muls(), e.Now()
	if len(a) < 2 {
		c, ok := e.KaraSqr(a, neverSqr(t))
		refused(t, "KaraSqr", c, ok)
	} else {
		x := piecesOf(a, (len(a)+1)/2)
		calls := 0
		c, ok := e.KaraSqr(a, func(p api.Nat) api.Nat {
			if calls == 3 {
				t.Fatal("a fourth call of inner")
			}
			words(t, "piece", p, x[calls])
			is(t, "Now within", e.Now(), level+1)
			calls++
			return sqr(p)
		})
		is(t, "calls", calls, 3)
		if !ok {
			t.Fatalf("KaraSqr of %d words: false", len(a))
		}
		words(t, "KaraSqr", c, square(a))
	}
	is(t, "Now", e.Now(), level)
	is(t, "Muls", e.Muls(), spent)
}

// P10.1: New, and what is promoted

func TestNew(t *testing.T) {
	for _, x := range []api.Table{
		{},
		table.Least(4, 12, 64, 4, 4, 2, 2, 4, 4, 2, 2),
		table.Least(5, 13, 65, 5, 5, 3, 3, 5, 5, 3, 3),
		table.Least(99999, 99999, 99999, 99999, 99999, 99999, 99999, 99999, 99999, 99999, 99999),
		table.Least(math.MinInt, math.MaxInt, -1, math.MinInt, math.MaxInt, 7, -7, 100, 1<<40, -1<<40, 20),
	} {
		e := kara.New(x)
		if e.Table != table.Clamp(x) || e.Engine.Table != school.New(x).Table || e.Base != table.Clamp(x).Base || e.Tree != table.Clamp(x).Tree {
			t.Errorf("%v: %v", x, e.Table)
		}
		is(t, "Muls", e.Muls(), 0)
		is(t, "Now", e.Now(), 0)
		is(t, "Deep", e.Deep(), 0)
		if other := kara.New(x); other == e || other.Engine == e.Engine || other.Tune == e.Tune {
			t.Error("two engines have one meter")
		}
	}
}

// The engine below can be asked through the one above, and both have one meter.
func TestPromoted(t *testing.T) {
	e := kara.New(table.Least(4))
	words(t, "Mul", e.Mul(api.Nat{1, 2, 3}, api.Nat{10, 100}), api.Nat{10, 120, 230, 300})
	is(t, "Muls", e.Muls(), 6)
	words(t, "Sqr", e.Sqr(api.Nat{1, 2}), api.Nat{1, 4, 4})
	is(t, "Muls", e.Muls(), 9)
	words(t, "Power", e.Power(api.Nat{3}, 5), api.Nat{243})
	is(t, "Muls", e.Engine.Muls(), 14)
	is(t, "Spend", e.Spend(6), 20)
	is(t, "Route", e.Route(9, 9), table.Kara)
	is(t, "Route", e.Route(20, 4), table.Block)
	is(t, "Enter", e.Enter(), 1)
	is(t, "Deep", e.Tune.Deep(), 1)
	is(t, "Leave", e.Leave(), 0)
	// Mul is by hand at any length: only Both goes in two pieces.
	e.Reset()
	s := source(6)
	a, b := s.row(40), s.row(40)
	words(t, "Mul", e.Mul(a, b), product(a, b))
	is(t, "Muls", e.Muls(), 1600)
	is(t, "Deep", e.Deep(), 0)
}

// P10.1: Kara and KaraSqr

// The document's example: 4 by 4 words are 2 by 2, 2 by 2, 3 by 3.
func TestExample(t *testing.T) {
	e := kara.New(api.Table{})
	var lengths []int
	c, ok := e.Kara(api.Nat{1, 2, 3, 4}, api.Nat{5, 6, 7, 8}, func(a, b api.Nat) api.Nat {
		lengths = append(lengths, len(a), len(b))
		return product(a, b)
	})
	if !ok || !slices.Equal(lengths, []int{2, 2, 2, 2, 3, 3}) {
		t.Error(ok, lengths)
	}
	words(t, "Kara", c, api.Nat{5, 16, 34, 60, 61, 52, 32})
}

// Lengths with those that inner is called with; nothing, where the answer is false.
var cuts = []struct {
	n, m    int
	lengths []int
}{
	{0, 0, nil}, {1, 0, nil}, {1, 1, nil}, {2, 0, nil}, {2, 1, nil},
	{2, 2, []int{1, 1, 1, 1, 2, 2}},
	{3, 1, nil}, {3, 2, nil},
	{3, 3, []int{2, 2, 1, 1, 3, 3}},
	{4, 1, nil}, {4, 2, nil},
	{4, 3, []int{2, 2, 2, 1, 3, 3}},
	{4, 4, []int{2, 2, 2, 2, 3, 3}},
	{5, 2, nil}, {5, 3, nil},
	{5, 4, []int{3, 3, 2, 1, 4, 4}},
	{5, 5, []int{3, 3, 2, 2, 4, 4}},
	{6, 3, nil},
	{6, 4, []int{3, 3, 3, 1, 4, 4}},
	{6, 5, []int{3, 3, 3, 2, 4, 4}},
	{6, 6, []int{3, 3, 3, 3, 4, 4}},
	{7, 4, nil},
	{7, 5, []int{4, 4, 3, 1, 5, 5}},
	{7, 7, []int{4, 4, 3, 3, 5, 5}},
	{100, 50, nil},
	{100, 51, []int{50, 50, 50, 1, 51, 51}},
	{100, 99, []int{50, 50, 50, 49, 51, 51}},
	{101, 51, nil},
	{101, 52, []int{51, 51, 50, 1, 52, 52}},
	{101, 101, []int{51, 51, 50, 50, 52, 52}},
	{1000, 0, nil}, {1000, 1, nil}, {1000, 500, nil},
	{1000, 501, []int{500, 500, 500, 1, 501, 501}},
}

func TestCuts(t *testing.T) {
	e := kara.New(api.Table{})
	s := source(4)
	for _, c := range cuts {
		for _, pair := range [][2]int{{c.n, c.m}, {c.m, c.n}} {
			for _, noughts := range []bool{false, true} {
				a, b := s.row(pair[0]), s.row(pair[1])
				if noughts {
					clear(a)
					clear(b)
				}
				var lengths []int
				d, ok := e.Kara(a, b, func(p, q api.Nat) api.Nat {
					lengths = append(lengths, len(p), len(q))
					return product(p, q)
				})
				if ok != (c.lengths != nil) || !slices.Equal(lengths, c.lengths) {
					t.Fatalf("%v: %v, %v; asked is %v", pair, lengths, ok, c.lengths)
				}
				if ok {
					words(t, "Kara", d, product(a, b))
				} else {
					refused(t, "Kara", d, ok)
				}
			}
		}
	}
}

// The first one is the longer one's piece; of two as long it is a's.
func TestWhichIsFirst(t *testing.T) {
	e := kara.New(api.Table{})
	for _, c := range []struct {
		n, m  int
		first uint64
	}{
		{2, 2, 7}, {3, 3, 7}, {8, 8, 7}, {9, 9, 7}, {4, 3, 7}, {3, 4, 9}, {9, 6, 7}, {6, 9, 9}, {30, 29, 7}, {29, 30, 9},
	} {
		calls := 0
		_, ok := e.Kara(same(7, c.n), same(9, c.m), func(p, q api.Nat) api.Nat {
			if p[0]%c.first != 0 || q[0]%(16-c.first) != 0 {
				t.Errorf("%d by %d words: call %d has the other one first", c.n, c.m, calls)
			}
			calls++
			return product(p, q)
		})
		if !ok || calls != 3 {
			t.Error(c, ok, calls)
		}
	}
}

func TestAllLengths(t *testing.T) {
	e := kara.New(api.Table{})
	s := source(2)
	for n := range 49 {
		for m := range 49 {
			checkKara(t, e, s.row(n), s.row(m), product)
			checkKara(t, e, same(most, n), same(most, m), product)
		}
		checkSqr(t, e, s.row(n), square)
		checkSqr(t, e, same(most, n), square)
	}
	is(t, "Deep", e.Deep(), 1)
}

// Noughts on top and at the bottom of each piece change no length; sums of the greatest words carry.
func TestPieces(t *testing.T) {
	e := kara.New(api.Table{})
	for n := range 14 {
		h := (n + 1) / 2
		for m := range n + 1 {
			for _, a := range rows(n, h) {
				for _, b := range rows(m, h) {
					checkKara(t, e, a, b, product)
					checkKara(t, e, b, a, product)
				}
			}
		}
		for _, a := range rows(n, h) {
			checkSqr(t, e, a, square)
		}
	}
}

// What inner answers may have noughts on top, or none at all, or lie in memory with spare room.
func TestAnswersOfInner(t *testing.T) {
	e := kara.New(api.Table{})
	spare := func(a, b api.Nat) api.Nat {
		c := product(a, b)
		return append(c, same(most, 9)...)[:len(c)]
	}
	for n := range 20 {
		for m := range 20 {
			for _, a := range []api.Nat{same(most, n), make(api.Nat, n), same(1, n)} {
				b := same(most, m)
				checkKara(t, e, a, b, padded)
				checkKara(t, e, a, b, spare)
				checkSqr(t, e, a, func(a api.Nat) api.Nat { return padded(a, a) })
				checkSqr(t, e, a, func(a api.Nat) api.Nat { return spare(a, a) })
			}
		}
	}
}

// What is handed to inner is its own: it may write there, and hand it out.
func TestInnerThatWrites(t *testing.T) {
	e := kara.New(api.Table{})
	s := source(15)
	for n := 2; n < 20; n++ {
		for m := (n+1)/2 + 1; m <= n; m++ {
			a, b := s.row(n), s.row(m)
			want, wantSqr := product(a, b), square(a)
			c, ok := e.Kara(a, b, func(p, q api.Nat) api.Nat {
				c := product(p, q)
				copy(p, same(11, len(p)))
				copy(q, same(13, len(q)))
				return c
			})
			if !ok {
				t.Fatal(n, m)
			}
			words(t, "Kara", c, want)
			c, ok = e.KaraSqr(a, func(p api.Nat) api.Nat {
				c := square(p)
				copy(p, same(11, len(p)))
				return c
			})
			if !ok {
				t.Fatal(n)
			}
			words(t, "KaraSqr", c, wantSqr)
		}
	}
	// By 1 + B, whose pieces are 1, 1 and 2, inner may hand out its first one as it is.
	a := api.Nat{5, 7}
	c, ok := e.Kara(a, api.Nat{1, 1}, func(p, q api.Nat) api.Nat {
		if q[0] == 1 {
			return p
		}
		p[0] *= 2
		return p
	})
	if !ok {
		t.Fatal("false")
	}
	words(t, "Kara", c, api.Nat{5, 12, 7})
	words(t, "a", a, api.Nat{5, 7})
}

// A number by itself is cut twice, each time into memory of its own.
func TestOneRowTwice(t *testing.T) {
	e := kara.New(api.Table{})
	s := source(16)
	for n := 2; n < 20; n++ {
		a := s.row(n)
		want := square(a)
		c, ok := e.Kara(a, a, func(p, q api.Nat) api.Nat {
			c := product(p, q)
			p[0], q[0] = 3, 4
			if p[0] != 3 {
				t.Fatal("both pieces lie in one memory")
			}
			return c
		})
		if !ok {
			t.Fatal(n)
		}
		words(t, "Kara", c, want)
	}
}

// Levels

func TestLevels(t *testing.T) {
	e := kara.New(api.Table{})
	s := source(17)
	for level := range 5 {
		is(t, "Now", e.Now(), level)
		checkKara(t, e, s.row(7), s.row(6), product)
		is(t, "Deep", e.Deep(), level+1)
		checkSqr(t, e, s.row(7), square)
		checkKara(t, e, s.row(7), s.row(3), product)
		checkSqr(t, e, s.row(1), square)
		is(t, "Deep", e.Deep(), level+1)
		e.Enter()
	}
	is(t, "Muls", e.Muls(), 0)
}

// Where the answer is false, nothing is multiplied, and no level is entered.
func TestRefusals(t *testing.T) {
	e := kara.New(api.Table{})
	s := source(18)
	e.Spend(7)
	for n := range 40 {
		for m := range (n+1)/2 + 1 {
			c, ok := e.Kara(s.row(n), s.row(m), neverMul(t))
			refused(t, "Kara", c, ok)
			c, ok = e.Kara(s.row(m), s.row(n), neverMul(t))
			refused(t, "Kara", c, ok)
		}
	}
	for _, a := range []api.Nat{nil, {}, {0}, {1}, {most}} {
		for _, b := range []api.Nat{nil, {}, {0}, {1}, {most}} {
			c, ok := e.Kara(a, b, neverMul(t))
			refused(t, "Kara", c, ok)
		}
		c, ok := e.KaraSqr(a, neverSqr(t))
		refused(t, "KaraSqr", c, ok)
	}
	is(t, "Now", e.Now(), 0)
	is(t, "Deep", e.Deep(), 0)
	is(t, "Muls", e.Muls(), 7)
}

// Each call within one is one level deeper, and each leaves its own again.
func TestWithinOneAnother(t *testing.T) {
	e := kara.New(api.Table{})
	s := source(19)
	a, b := s.row(16), s.row(16)
	var levels []int
	var down func(p, q api.Nat) api.Nat
	down = func(p, q api.Nat) api.Nat {
		levels = append(levels, e.Now())
		if len(p) < 5 {
			return product(p, q)
		}
		c, _ := e.Kara(p, q, down)
		return c
	}
	words(t, "Kara", down(a, b), product(a, b))
	// 16: 8, 8, 9; 8: 4, 4, 5; 9: 5, 4, 6; 5: 3, 2, 4; 6: 3, 3, 4.
	want := []int{
		0,
		1, 2, 2, 2, 3, 3, 3,
		1, 2, 2, 2, 3, 3, 3,
		1, 2, 3, 3, 3, 2, 2, 3, 3, 3,
	}
	if !slices.Equal(levels, want) {
		t.Errorf("%v; asked is %v", levels, want)
	}
	is(t, "Now", e.Now(), 0)
	is(t, "Deep", e.Deep(), 3)
	is(t, "Muls", e.Muls(), 0)
}

// P10.1: inner is the engine's own call

func TestEnginesOwn(t *testing.T) {
	e := kara.New(table.Least(4))
	s := source(20)
	for n := range 40 {
		for m := range n + 1 {
			h := (n + 1) / 2
			a, b := s.row(n), s.row(m)
			byHand, byBoth := 0, 0
			if m > h {
				byHand = h*h + (n-h)*(m-h) + (h+1)*(h+1)
				byBoth = bothCost(4, h, h) + bothCost(4, n-h, m-h) + bothCost(4, h+1, h+1)
			}
			for _, pair := range [][2]api.Nat{{a, b}, {b, a}} {
				e.Reset()
				c, ok := e.Kara(pair[0], pair[1], e.Mul)
				if ok != (m > h) || ok && !slices.Equal(c, product(a, b)) {
					t.Fatal("by Mul", n, m, ok)
				}
				is(t, "by Mul", e.Muls(), byHand)
				e.Reset()
				c, ok = e.Kara(pair[0], pair[1], e.Both)
				if ok != (m > h) || ok && !slices.Equal(c, product(a, b)) {
					t.Fatal("by Both", n, m, ok)
				}
				is(t, "by Both", e.Muls(), byBoth)
				is(t, "Now", e.Now(), 0)
			}
		}
	}
}

func TestSquaresByTheEnginesOwn(t *testing.T) {
	e := kara.New(table.Least(4))
	s := source(21)
	for n := range 60 {
		a := s.row(n)
		h, spent := (n+1)/2, 0
		if n > 1 {
			spent = h*(h+1)/2 + (n-h)*(n-h+1)/2 + (h+1)*(h+2)/2
		}
		e.Reset()
		c, ok := e.KaraSqr(a, e.Sqr)
		if ok != (n > 1) || ok && !slices.Equal(c, square(a)) {
			t.Fatal(n, ok)
		}
		is(t, "Muls", e.Muls(), spent)
		c, ok = e.KaraSqr(a, func(p api.Nat) api.Nat { return e.Both(p, p) })
		if ok != (n > 1) || ok && !slices.Equal(c, square(a)) {
			t.Fatal(n, ok)
		}
	}
}

// P10.2: Both

// bothCost is what Both spends, by the lengths alone.
func bothCost(base, n, m int) int {
	n, m = max(n, m), min(n, m)
	h := (n + 1) / 2
	if m < base || m <= h {
		return n * m
	}
	return bothCost(base, h, h) + bothCost(base, n-h, m-h) + bothCost(base, h+1, h+1)
}

// bothDeep is how many levels Both enters.
func bothDeep(base, n, m int) int {
	n, m = max(n, m), min(n, m)
	h := (n + 1) / 2
	if m < base || m <= h {
		return 0
	}
	return 1 + max(bothDeep(base, h, h), bothDeep(base, n-h, m-h), bothDeep(base, h+1, h+1))
}

// checkBoth holds a product, what it spends and how deep it goes, against what is asked.
func checkBoth(t *testing.T, e *kara.Engine, a, b api.Nat) {
	t.Helper()
	e.Reset()
	words(t, "Both", e.Both(a, b), product(a, b))
	is(t, "Now", e.Now(), 0)
	if spent, asked := e.Muls(), bothCost(e.Base, len(a), len(b)); spent != asked {
		t.Fatalf("Both of %d by %d words, Base %d, spends %d; asked is %d", len(a), len(b), e.Base, spent, asked)
	}
	if deep, asked := e.Deep(), bothDeep(e.Base, len(a), len(b)); deep != asked {
		t.Fatalf("Both of %d by %d words, Base %d, enters %d levels; asked is %d", len(a), len(b), e.Base, deep, asked)
	}
}

// What Both spends and how deep it goes, told by numbers.
var prices = []struct{ base, n, m, spent, deep int }{
	{4, 0, 0, 0, 0}, {4, 9, 0, 0, 0}, {4, 1, 1, 1, 0}, {4, 3, 3, 9, 0}, {4, 30, 3, 90, 0},
	{4, 4, 4, 4 + 4 + 9, 1},
	{4, 5, 4, 9 + 2 + 17, 2},
	{4, 5, 5, 9 + 4 + 17, 2},
	{4, 6, 4, 9 + 3 + 17, 2},
	{4, 6, 6, 9 + 9 + 17, 2},
	{4, 7, 4, 28, 0},
	{4, 7, 5, 17 + 3 + 30, 3},
	{4, 7, 7, 17 + 9 + 30, 3},
	{4, 8, 4, 32, 0},
	{4, 8, 5, 17 + 4 + 30, 3},
	{4, 8, 8, 17 + 17 + 30, 3},
	{4, 9, 9, 30 + 17 + 35, 3},
	{4, 16, 8, 128, 0},
	{4, 16, 9, 64 + 8 + 82, 4},
	{4, 16, 16, 64 + 64 + 82, 4},
	{5, 4, 4, 16, 0},
	{5, 5, 5, 9 + 4 + 16, 1},
	{7, 6, 6, 36, 0}, {7, 7, 6, 42, 0},
	{7, 7, 7, 16 + 9 + 25, 1},
	{7, 14, 14, 50 + 50 + 16 + 16 + 25, 2},
	{64, 63, 63, 63 * 63, 0}, {64, 64, 63, 64 * 63, 0},
	{64, 64, 64, 32*32 + 32*32 + 33*33, 1},
	{64, 200, 100, 20000, 0},
	{64, 127, 127, 3137 + 63*63 + 33*33 + 32*32 + 34*34, 2},
	{0, 4, 4, 17, 1}, {-1, 8, 8, 64, 3}, {math.MinInt, 9, 9, 82, 3}, {3, 4, 4, 17, 1},
	{65, 64, 64, 3137, 1}, {1000, 64, 64, 3137, 1}, {math.MaxInt, 64, 64, 3137, 1}, {math.MaxInt, 63, 63, 3969, 0},
}

func TestPrices(t *testing.T) {
	s := source(22)
	for _, c := range prices {
		for _, pair := range [][2]int{{c.n, c.m}, {c.m, c.n}} {
			for _, noughts := range []bool{false, true} {
				e := kara.New(table.Least(c.base))
				a, b := s.row(pair[0]), s.row(pair[1])
				if noughts {
					clear(a)
					clear(b)
				}
				words(t, "Both", e.Both(a, b), product(a, b))
				if e.Muls() != c.spent || e.Deep() != c.deep || e.Now() != 0 {
					t.Errorf("%v: %d, %d", c, e.Muls(), e.Deep())
				}
			}
		}
	}
}

// Each Base, at lengths about it, about twice and about four times as many.
func TestEachBase(t *testing.T) {
	s := source(23)
	for base := -1; base < 70; base++ {
		e := kara.New(table.Least(base))
		is(t, "Base", e.Base, min(max(base, 4), 64))
		for _, times := range []int{1, 2, 4} {
			for n := times*e.Base - 1; n <= times*e.Base+1; n++ {
				for _, m := range []int{n - 1, n, e.Base - 1, e.Base, (n+1)/2 - 1, (n + 1) / 2, (n+1)/2 + 1} {
					checkBoth(t, e, s.row(n), s.row(m))
					checkBoth(t, e, s.row(m), s.row(n))
				}
				checkBoth(t, e, same(most, n), same(most, n))
			}
		}
	}
}

func TestBothAtAllLengths(t *testing.T) {
	s := source(24)
	for _, base := range []int{4, 5, 8, 17} {
		e := kara.New(table.Least(base))
		for n := range 42 {
			for m := range 42 {
				checkBoth(t, e, s.row(n), s.row(m))
				checkBoth(t, e, same(most, n), same(most, m))
			}
		}
	}
}

func TestBothOfAllKinds(t *testing.T) {
	e := kara.New(table.Least(4))
	for _, n := range []int{4, 5, 8, 9, 13, 16, 17} {
		h := (n + 1) / 2
		for _, m := range []int{3, h, h + 1, n - 1, n} {
			for _, a := range rows(n, h) {
				for _, b := range rows(m, h) {
					checkBoth(t, e, a, b)
					checkBoth(t, e, b, a)
				}
			}
		}
	}
}

func TestVeryUnequal(t *testing.T) {
	e := kara.New(table.Least(4))
	s := source(25)
	for _, a := range []api.Nat{nil, {}, {0}, {7}, s.row(2), s.row(4), s.row(9)} {
		for _, b := range []api.Nat{nil, {}, {0}, make(api.Nat, 500), s.row(100), s.row(api.MaxWords), same(most, 1000)} {
			checkBoth(t, e, a, b)
			checkBoth(t, e, b, a)
		}
	}
}

// Of two as long, Both is what the table says of the route in two pieces.
func TestAsTheTableSays(t *testing.T) {
	for _, base := range []int{4, 5, 31, 64} {
		x := table.Least(base, math.MaxInt, math.MaxInt)
		e := kara.New(x)
		for _, n := range []int{0, 1, 3, 4, 10, 63, 64, 65, 130, 200, 333} {
			e.Reset()
			e.Both(same(3, n), same(5, n))
			is(t, "Muls", e.Muls(), table.Cost(x, n, n))
		}
	}
}

// No entry but Base changes what is done.
func TestOtherEntries(t *testing.T) {
	s := source(26)
	a, b := s.row(90), s.row(77)
	for _, x := range []api.Table{
		table.Least(6), table.Least(6, 12, 64, 4, 4, 2, 2, 4, 4, 2, 2), table.Least(6, math.MaxInt, math.MaxInt, math.MaxInt), table.Least(6, -5, math.MaxInt, math.MinInt, 3),
	} {
		checkBoth(t, kara.New(x), a, b)
	}
}

// The longest rows that may be handed in.
func TestMostWords(t *testing.T) {
	e := kara.New(table.Least(64))
	s := source(27)
	a, b := s.row(api.MaxWords), s.row(api.MaxWords)
	checkBoth(t, e, a, b)
	checkBoth(t, e, same(most, api.MaxWords), same(most, api.MaxWords))
	checkBoth(t, e, a, s.row(api.MaxWords-1))
	checkBoth(t, e, s.row(api.MaxWords/2+1), a)
	checkKara(t, e, a, b, product)
	checkSqr(t, e, a, square)
}

// R4: memory

// walled is a row with a wall behind its length, and the memory of both.
func walled(a api.Nat) (row, memory api.Nat) {
	memory = slices.Concat(a, same(0x5a5a, 8))
	return memory[:len(a)], memory
}

func TestHandedInIsLeft(t *testing.T) {
	e := kara.New(table.Least(4))
	s := source(28)
	for n := range 20 {
		for m := range 20 {
			a, behindA := walled(s.row(n))
			b, behindB := walled(s.row(m))
			keptA, keptB := slices.Clone(behindA), slices.Clone(behindB)
			e.Kara(a, b, product)
			e.Kara(a, b, e.Both)
			e.KaraSqr(a, square)
			e.KaraSqr(b, e.Sqr)
			e.Both(a, b)
			words(t, "a", behindA, keptA)
			words(t, "b", behindB, keptB)
		}
	}
}

// What lies behind a length is not read, by inner either.
func TestBehindIsNotRead(t *testing.T) {
	e := kara.New(table.Least(4))
	s := source(29)
	for n := range 20 {
		for m := range 20 {
			a, _ := walled(s.row(n))
			b, _ := walled(s.row(m))
			reading := func(p, q api.Nat) api.Nat {
				if slices.Contains(p[:cap(p)][len(p):], 0x5a5a) || slices.Contains(q[:cap(q)][len(q):], 0x5a5a) {
					t.Error("a piece reaches behind what was handed in")
				}
				return product(p, q)
			}
			checkKara(t, e, a, b, reading)
			checkSqr(t, e, a, func(p api.Nat) api.Nat { return reading(p, p) })
			checkBoth(t, e, a, b)
		}
	}
}

// overwrite fills a row and its spare room.
func overwrite(a api.Nat, w uint64) {
	a = a[:cap(a)]
	for i := range a {
		a[i] = w
	}
}

func TestHandedOutIsNew(t *testing.T) {
	e := kara.New(table.Least(4))
	s := source(30)
	for n := range 20 {
		for m := range 20 {
			a, behindA := walled(s.row(n))
			b, behindB := walled(s.row(m))
			keptA, keptB := slices.Clone(behindA), slices.Clone(behindB)
			var inners []api.Nat
			noting := func(p, q api.Nat) api.Nat {
				c := append(product(p, q), 0)
				inners = append(inners, p, q, c)
				return c
			}
			c, okMul := e.Kara(a, b, noting)
			d, okSqr := e.KaraSqr(a, func(p api.Nat) api.Nat { return noting(p, p) })
			answers := []api.Nat{c, d, e.Both(a, b)}
			asked := []api.Nat{nil, nil, product(a, b)}
			if okMul {
				asked[0] = product(a, b)
			}
			if okSqr {
				asked[1] = square(a)
			}
			for _, p := range inners {
				overwrite(p, 0x77)
			}
			for i := range answers {
				words(t, "an answer", answers[i], asked[i])
				overwrite(answers[i], 0x99)
			}
			for _, p := range inners {
				if slices.Contains(p[:cap(p)], 0x99) {
					t.Fatal("an answer lies in the memory of a piece, or of what inner answers")
				}
			}
			words(t, "a", behindA, keptA)
			words(t, "b", behindB, keptB)
			words(t, "Both again", e.Both(a, b), product(a, b))
		}
	}
}

// R5: what was asked before changes no answer.
func TestOrder(t *testing.T) {
	s := source(31)
	a, b := s.row(23), s.row(19)
	fresh, used := kara.New(table.Least(5)), kara.New(table.Least(5))
	for n := range 30 {
		used.Both(s.row(n), s.row(n))
		used.Kara(s.row(n), s.row(3), product)
		used.KaraSqr(s.row(n), square)
	}
	used.Enter()
	before := used.Muls()
	words(t, "Both", used.Both(a, b), fresh.Both(a, b))
	is(t, "Muls", used.Muls()-before, fresh.Muls())
	is(t, "Now", used.Now(), 1)
	for _, e := range []*kara.Engine{fresh, used} {
		checkKara(t, e, a, b, product)
		checkSqr(t, e, a, square)
	}
}
