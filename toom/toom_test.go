package toom_test

import (
	"math"
	"math/big"
	"slices"
	"testing"

	"ziggurat/api"
	"ziggurat/kara"
	"ziggurat/table"
	"ziggurat/toom"
)

const (
	half = uint64(1) << 63
	most = ^uint64(0)
)

// source is a row of words that is the same in every run; each fourth or so is at an edge.
type source uint64

func (s *source) next() uint64 {
	*s = *s*6364136223846793005 + 1442695040888963407
	x := uint64(*s)
	x ^= x >> 29
	switch x >> 59 {
	case 0, 1:
		return 0
	case 2, 3:
		return most
	case 4:
		return half
	case 5:
		return x & 3
	case 6:
		return most - x&3
	}
	return x * 0x9e3779b97f4a7c15
}

func (s *source) row(n int) api.Nat {
	a := make(api.Nat, n)
	for i := range a {
		a[i] = s.next()
	}
	return a
}

func same(x uint64, n int) api.Nat { return slices.Repeat(api.Nat{x}, n) }

// rows are rows of n words, of all kinds: any, the greatest words, noughts, and such as are cut behind k and behind 2 k words: with noughts in the whole of a piece, on its top or at its bottom, with one piece alone, and with a lone word at either end of one.
func rows(n, k int) []api.Nat {
	s := source(70 + n)
	list := []api.Nat{s.row(n), s.row(n), same(most, n), make(api.Nat, n), same(half, n), same(1, n)}
	for i := range 3 {
		from, to := min(i*k, n), min((i+1)*k, n)
		middle := (from + to) / 2
		for _, cleared := range [][2]int{{from, to}, {from, middle}, {middle, to}} {
			a := same(most, n)
			clear(a[cleared[0]:cleared[1]])
			list = append(list, a)
		}
		alone := make(api.Nat, n)
		copy(alone[from:to], same(most, n))
		list = append(list, alone)
		for _, place := range []int{from, to - 1} {
			if from < to {
				a := make(api.Nat, n)
				a[place] = most
				list = append(list, a)
			}
		}
	}
	return list
}

// What is asked, reckoned by the library's great numbers alone.

// great is the number that has these words.
func great(a api.Nat) *big.Int {
	list := make([]byte, 0, 8*len(a))
	for _, w := range slices.Backward(a) {
		for place := 56; place >= 0; place -= 8 {
			list = append(list, byte(w>>place))
		}
	}
	return new(big.Int).SetBytes(list)
}

// wordsOf are the words of a number's size, n of them; of n below 0, as many as it has without noughts on top.
func wordsOf(x *big.Int, n int) api.Nat {
	if n < 0 {
		n = (x.BitLen() + 63) / 64
	}
	row := make(api.Nat, n)
	list := x.FillBytes(make([]byte, 8*n))
	for i := range list {
		row[n-1-i/8] = row[n-1-i/8]<<8 | uint64(list[i])
	}
	return row
}

// product is a b, without noughts on top.
func product(a, b api.Nat) api.Nat {
	return wordsOf(new(big.Int).Mul(great(a), great(b)), -1)
}

func square(a api.Nat) api.Nat { return product(a, a) }

// padded is a product that has noughts on top.
func padded(a, b api.Nat) api.Nat { return append(product(a, b), 0, 0) }

// spare is a product that has room behind it, which is not empty.
func spare(a, b api.Nat) api.Nat {
	c := product(a, b)
	return append(c, same(most, 9)...)[:len(c)]
}

// at is a2 x x + a1 x + a0, of the pieces of k words.
func at(a api.Nat, k int, x int64) *big.Int {
	k1, k2 := min(k, len(a)), min(2*k, len(a))
	sum := great(a[k2:])
	for _, piece := range []api.Nat{a[k1:k2], a[:k1]} {
		sum.Add(sum.Mul(sum, big.NewInt(x)), great(piece))
	}
	return sum
}

// pointsOf are the values at 0, 1, -1, 2 and infinity.
func pointsOf(a api.Nat, k int) [5]*big.Int {
	return [5]*big.Int{at(a, k, 0), at(a, k, 1), at(a, k, -1), at(a, k, 2), great(a[min(2*k, len(a)):])}
}

// handedIn are the rows that inner must be handed: the values' sizes, with as many words as chapter 4 says.
func handedIn(a api.Nat, k int) [5]api.Nat {
	var list [5]api.Nat
	for i, x := range pointsOf(a, k) {
		list[i] = wordsOf(x, [5]int{k, k + 1, k + 1, k + 1, len(a) - 2*k}[i])
	}
	return list
}

// What is held against what is asked.

func is(t *testing.T, told string, answer, asked int) {
	t.Helper()
	if answer != asked {
		t.Errorf("%s: %d; asked is %d", told, answer, asked)
	}
}

func words(t *testing.T, told string, answer, asked api.Nat) {
	t.Helper()
	if !slices.Equal(answer, asked) {
		t.Fatalf("%s: %x; asked is %x", told, answer, asked)
	}
}

// whole holds a whole number against the one that is asked; 0 has no sign.
func whole(t *testing.T, told string, answer api.Int, asked *big.Int) {
	t.Helper()
	if answer.Neg != (asked.Sign() < 0) || !slices.Equal(answer.Nat, wordsOf(asked, -1)) {
		t.Fatalf("%s: %v; asked is %v", told, answer, asked)
	}
}

// refused holds a refusal: nothing stands beside false.
func refused(t *testing.T, told string, c api.Nat, ok bool) {
	t.Helper()
	if ok || len(c) != 0 {
		t.Fatalf("%s: %v, %v; asked is false, and nothing beside", told, c, ok)
	}
}

// neverMul and neverSqr are handed in where inner must not be called.
func neverMul(t *testing.T) func(a, b api.Nat) api.Nat {
	return func(a, b api.Nat) api.Nat {
		t.Errorf("inner is called with %d by %d words", len(a), len(b))
		return product(a, b)
	}
}

func neverSqr(t *testing.T) func(a api.Nat) api.Nat {
	return func(a api.Nat) api.Nat {
		t.Errorf("inner is called with %d words", len(a))
		return square(a)
	}
}

// checkThird holds Third against what is asked.
func checkThird(t *testing.T, a api.Nat) {
	t.Helper()
	q, r := new(big.Int).QuoRem(great(a), big.NewInt(3), new(big.Int))
	third, ok := toom.Third(a)
	if r.Sign() != 0 {
		refused(t, "Third", third, ok)
		return
	}
	if !ok {
		t.Fatalf("Third of %x: false", a)
	}
	words(t, "Third", third, wordsOf(q, -1))
}

// checkPoints holds Points against what is asked.
func checkPoints(t *testing.T, a api.Nat, k int) {
	t.Helper()
	p0, p1, m1, p2, inf := toom.Points(a, k)
	asked := pointsOf(a, min(max(k, 1), api.MaxWords))
	for i, p := range []api.Int{p0, p1, m1, p2, inf} {
		whole(t, [5]string{"at 0", "at 1", "at -1", "at 2", "at infinity"}[i], p, asked[i])
	}
}

// checkToom holds a product, each call of inner, and what the meter says, against what is asked.
func checkToom(t *testing.T, e *toom.Engine, a, b api.Nat, mul func(a, b api.Nat) api.Nat) {
	t.Helper()
	longer, shorter := a, b
	if len(a) < len(b) {
		longer, shorter = b, a
	}
	k := (len(longer) + 2) / 3
	spent, level := e.Muls(), e.Now()
	if len(shorter) <= 2*k {
		c, ok := e.Toom(a, b, neverMul(t))
		refused(t, "Toom", c, ok)
	} else {
		x, y := handedIn(longer, k), handedIn(shorter, k)
		calls := 0
		c, ok := e.Toom(a, b, func(p, q api.Nat) api.Nat {
			if calls == 5 {
				t.Fatal("a sixth call of inner")
			}
			words(t, "first", p, x[calls])
			words(t, "second", q, y[calls])
			is(t, "Now within", e.Now(), level+1)
			calls++
			return mul(p, q)
		})
		is(t, "calls", calls, 5)
		if !ok {
			t.Fatalf("Toom of %d by %d words: false", len(a), len(b))
		}
		words(t, "Toom", c, product(a, b))
	}
	is(t, "Now", e.Now(), level)
	is(t, "Muls", e.Muls(), spent)
}

// checkSqr is checkToom of a square.
func checkSqr(t *testing.T, e *toom.Engine, a api.Nat, sqr func(a api.Nat) api.Nat) {
	t.Helper()
	k := (len(a) + 2) / 3
	spent, level := e.Muls(), e.Now()
	if len(a) <= 2*k {
		c, ok := e.ToomSqr(a, neverSqr(t))
		refused(t, "ToomSqr", c, ok)
	} else {
		x := handedIn(a, k)
		calls := 0
		c, ok := e.ToomSqr(a, func(p api.Nat) api.Nat {
			if calls == 5 {
				t.Fatal("a sixth call of inner")
			}
			words(t, "piece", p, x[calls])
			is(t, "Now within", e.Now(), level+1)
			calls++
			return sqr(p)
		})
		is(t, "calls", calls, 5)
		if !ok {
			t.Fatalf("ToomSqr of %d words: false", len(a))
		}
		words(t, "ToomSqr", c, square(a))
	}
	is(t, "Now", e.Now(), level)
	is(t, "Muls", e.Muls(), spent)
}

// P11.1: Third

func TestThirdExample(t *testing.T) {
	c, ok := toom.Third(api.Nat{12})
	if !ok {
		t.Fatal("12: false")
	}
	words(t, "12", c, api.Nat{4})
	c, ok = toom.Third(api.Nat{13})
	refused(t, "13", c, ok)
}

func TestThirdOfNothing(t *testing.T) {
	for _, a := range []api.Nat{nil, {}, {0}, {0, 0, 0}} {
		if c, ok := toom.Third(a); !ok || len(c) != 0 {
			t.Errorf("%v: %v, %v", a, c, ok)
		}
	}
}

// B is 1 more than a product with 3, so that each word counts by what is left of it alone.
func TestThirdOfFewWords(t *testing.T) {
	edges := []uint64{0, 1, 2, 3, 4, 5, 6, half - 1, half, half + 1, most / 3, most/3 + 1, most / 3 * 2, most - 3, most - 2, most - 1, most}
	for _, w0 := range edges {
		checkThird(t, api.Nat{w0})
		for _, w1 := range edges {
			checkThird(t, api.Nat{w0, w1})
			for _, w2 := range edges {
				checkThird(t, api.Nat{w0, w1, w2})
			}
		}
	}
	for w := range uint64(3000) {
		checkThird(t, api.Nat{w})
		checkThird(t, api.Nat{most - w})
		checkThird(t, api.Nat{w, most - w, 0, 0})
	}
}

func TestThirdOfProducts(t *testing.T) {
	s := source(1)
	for n := range 60 {
		for range 6 {
			triple := new(big.Int).Mul(great(s.row(n)), big.NewInt(3))
			for more := range int64(4) {
				a := wordsOf(new(big.Int).Add(triple, big.NewInt(more)), -1)
				_, ok := toom.Third(a)
				if ok != (more%3 == 0) {
					t.Fatalf("%x, %d more: %v", a, more, ok)
				}
				checkThird(t, a)
				checkThird(t, append(a, 0))
				checkThird(t, append(a, 0, 0, 0))
			}
		}
	}
}

func TestThirdOfGreatestWords(t *testing.T) {
	for n := range 40 {
		a := same(most, n)
		c, ok := toom.Third(a)
		if !ok {
			t.Fatal(n)
		}
		words(t, "Third", c, same(most/3, n))
		for _, w := range []uint64{1, 2, 3} {
			checkThird(t, append(same(most, n), w))
			checkThird(t, append(same(0, n), w))
			checkThird(t, append(api.Nat{most - w}, a...))
		}
	}
}

func TestThirdOfMostWords(t *testing.T) {
	s := source(2)
	for range 6 {
		a := s.row(api.MaxWords)
		for range 3 {
			checkThird(t, a)
			a[5]++
		}
	}
	checkThird(t, same(most, api.MaxWords))
	checkThird(t, make(api.Nat, api.MaxWords))
}

// P11.1: Points

func TestPointsByHand(t *testing.T) {
	for _, c := range []struct {
		a    api.Nat
		k    int
		want [5]api.Int
	}{
		{api.Nat{5, 9, 2}, 1, [5]api.Int{{Nat: api.Nat{5}}, {Nat: api.Nat{16}}, {Nat: api.Nat{2}, Neg: true}, {Nat: api.Nat{31}}, {Nat: api.Nat{2}}}},
		{api.Nat{5, 7, 2}, 1, [5]api.Int{{Nat: api.Nat{5}}, {Nat: api.Nat{14}}, {}, {Nat: api.Nat{27}}, {Nat: api.Nat{2}}}},
		{api.Nat{5, 6, 2}, 1, [5]api.Int{{Nat: api.Nat{5}}, {Nat: api.Nat{13}}, {Nat: api.Nat{1}}, {Nat: api.Nat{25}}, {Nat: api.Nat{2}}}},
		{api.Nat{5, 9, 2}, 2, [5]api.Int{{Nat: api.Nat{5, 9}}, {Nat: api.Nat{7, 9}}, {Nat: api.Nat{3, 9}}, {Nat: api.Nat{9, 9}}, {}}},
		{api.Nat{5, 9, 2}, 3, [5]api.Int{{Nat: api.Nat{5, 9, 2}}, {Nat: api.Nat{5, 9, 2}}, {Nat: api.Nat{5, 9, 2}}, {Nat: api.Nat{5, 9, 2}}, {}}},
		{api.Nat{0, 1}, 1, [5]api.Int{{}, {Nat: api.Nat{1}}, {Nat: api.Nat{1}, Neg: true}, {Nat: api.Nat{2}}, {}}},
		{api.Nat{0, 0, 1}, 1, [5]api.Int{{}, {Nat: api.Nat{1}}, {Nat: api.Nat{1}}, {Nat: api.Nat{4}}, {Nat: api.Nat{1}}}},
		{api.Nat{1, 2, 3, 4}, 1, [5]api.Int{{Nat: api.Nat{1}}, {Nat: api.Nat{6, 4}}, {Nat: api.Nat{2, 4}}, {Nat: api.Nat{17, 16}}, {Nat: api.Nat{3, 4}}}},
		{same(most, 3), 1, [5]api.Int{{Nat: api.Nat{most}}, {Nat: api.Nat{most - 2, 2}}, {Nat: api.Nat{most}}, {Nat: api.Nat{most - 6, 6}}, {Nat: api.Nat{most}}}},
	} {
		p0, p1, m1, p2, inf := toom.Points(c.a, c.k)
		for i, p := range []api.Int{p0, p1, m1, p2, inf} {
			if p.Neg != c.want[i].Neg || !slices.Equal(p.Nat, c.want[i].Nat) {
				t.Errorf("%v, %d: the value %d is %v; asked is %v", c.a, c.k, i, p, c.want[i])
			}
		}
		checkPoints(t, c.a, c.k)
	}
}

func TestPointsOfNothing(t *testing.T) {
	for _, a := range []api.Nat{nil, {}, {0}, make(api.Nat, 9)} {
		for _, k := range []int{math.MinInt, -1, 0, 1, 2, 3, 4, 9, 10, api.MaxWords, api.MaxWords + 1, math.MaxInt} {
			p0, p1, m1, p2, inf := toom.Points(a, k)
			for i, p := range []api.Int{p0, p1, m1, p2, inf} {
				if p.Neg || len(p.Nat) != 0 {
					t.Errorf("%v, %d: the value %d is %v", a, k, i, p)
				}
			}
		}
	}
}

// Each k from below 1 to above the length, of rows of all kinds that are cut there.
func TestPointsAtEachPlace(t *testing.T) {
	for n := range 16 {
		for k := -2; k < n+4; k++ {
			for _, a := range rows(n, max(k, 1)) {
				checkPoints(t, a, k)
				checkPoints(t, append(a, 0), k)
				checkPoints(t, append(a, 0, 0, 0), k)
			}
		}
	}
}

func TestPointsCutK(t *testing.T) {
	s := source(3)
	a := s.row(12)
	for _, k := range []int{math.MinInt, math.MinInt + 1, -1 << 40, -api.MaxWords, -1, 0} {
		checkPoints(t, a, k)
		p0, _, _, _, inf := toom.Points(api.Nat{7, 8, 9}, k)
		words(t, "at 0", p0.Nat, api.Nat{7})
		words(t, "at infinity", inf.Nat, api.Nat{9})
	}
	for _, k := range []int{api.MaxWords - 1, api.MaxWords, api.MaxWords + 1, 1 << 40, math.MaxInt / 2, math.MaxInt/2 + 1, math.MaxInt - 1, math.MaxInt} {
		checkPoints(t, a, k)
		checkPoints(t, s.row(api.MaxWords), k)
		checkPoints(t, same(most, api.MaxWords), k)
		// A row that is longer than one may be tells where k is cut.
		checkPoints(t, append(s.row(2*api.MaxWords), 1, 2, 3), k)
	}
}

func TestPointsOfMostWords(t *testing.T) {
	s := source(4)
	for _, k := range []int{1, 2, 1000, api.MaxWords / 3, api.MaxWords/3 + 1, api.MaxWords/2 - 1, api.MaxWords / 2, api.MaxWords/2 + 1} {
		checkPoints(t, s.row(api.MaxWords), k)
		checkPoints(t, same(most, api.MaxWords), k)
	}
}

// The value at -1 about 0, where it is told by the lowest word alone.
func TestPointsAboutNothing(t *testing.T) {
	s := source(5)
	for k := 1; k < 9; k++ {
		for range 8 {
			a0, a2 := s.row(k), s.row(k)
			a0[k-1] >>= 1
			a2[k-1] >>= 1
			for _, more := range []int64{-2, -1, 0, 1, 2} {
				a1 := new(big.Int).Add(great(a0), great(a2))
				a1.Add(a1, big.NewInt(more))
				if a1.Sign() < 0 || a1.BitLen() > 64*k {
					continue
				}
				a := slices.Concat(a0, wordsOf(a1, k), a2)
				_, _, m1, _, _ := toom.Points(a, k)
				whole(t, "at -1", m1, big.NewInt(-more))
				checkPoints(t, a, k)
			}
		}
	}
}

// P11.2: New, and what is promoted

func TestNew(t *testing.T) {
	for _, x := range []api.Table{
		{},
		table.Least(4, 12, 64, 4, 4, 2, 2, 4, 4, 2, 2),
		table.Least(5, 13, 65, 5, 5, 3, 3, 5, 5, 3, 3),
		table.Least(99999, 99999, 99999, 99999, 99999, 99999, 99999, 99999, 99999, 99999, 99999),
		table.Least(math.MinInt, math.MaxInt, -1, math.MinInt, math.MaxInt, 7, -7, 100, 1<<40, -1<<40, 20),
	} {
		e := toom.New(x)
		clamped := table.Clamp(x)
		if e.Table != clamped || e.Engine.Table != kara.New(x).Table {
			t.Errorf("%v: %v", x, e.Table)
		}
		// The call Toom hides the entry, which the table still tells, and so does the engine below.
		is(t, "Toom", e.Table.Toom, clamped.Toom)
		is(t, "Toom", e.Engine.Toom, clamped.Toom)
		entries := []int{e.Base, e.Ntt, e.Div, e.Recip, e.Lehmer, e.Radix, e.Poly, e.Kron, e.Series, e.Tree}
		asked := []int{clamped.Base, clamped.Ntt, clamped.Div, clamped.Recip, clamped.Lehmer, clamped.Radix, clamped.Poly, clamped.Kron, clamped.Series, clamped.Tree}
		if !slices.Equal(entries, asked) {
			t.Errorf("%v: %v", x, entries)
		}
		is(t, "Muls", e.Muls(), 0)
		is(t, "Now", e.Now(), 0)
		is(t, "Deep", e.Deep(), 0)
		if other := toom.New(x); other == e || other.Engine == e.Engine || other.Tune == e.Tune {
			t.Error("two engines have one meter")
		}
	}
}

// The engines below can be asked through the one above, and all have one meter.
func TestPromoted(t *testing.T) {
	e := toom.New(table.Least(4))
	words(t, "Mul", e.Mul(api.Nat{1, 2, 3}, api.Nat{10, 100}), api.Nat{10, 120, 230, 300})
	is(t, "Muls", e.Muls(), 6)
	words(t, "Sqr", e.Sqr(api.Nat{1, 2}), api.Nat{1, 4, 4})
	is(t, "Muls", e.Muls(), 9)
	words(t, "Power", e.Power(api.Nat{3}, 5), api.Nat{243})
	is(t, "Muls", e.Engine.Muls(), 14)
	is(t, "Spend", e.Spend(6), 20)
	is(t, "Route", e.Route(9, 9), table.Kara)
	is(t, "Route", e.Route(12, 12), table.Toom)
	is(t, "Enter", e.Enter(), 1)
	is(t, "Now", e.Engine.Now(), 1)
	is(t, "Deep", e.Tune.Deep(), 1)
	is(t, "Leave", e.Leave(), 0)
	e.Reset()
	s := source(6)
	a, b := s.row(8), s.row(8)
	words(t, "Both", e.Both(a, b), product(a, b))
	is(t, "Muls", e.Muls(), 17+17+30)
	is(t, "Deep", e.Deep(), 3)
	e.Reset()
	c, ok := e.Kara(a, b, e.Mul)
	if !ok {
		t.Fatal("Kara: false")
	}
	words(t, "Kara", c, product(a, b))
	is(t, "Muls", e.Muls(), 16+16+25)
	c, ok = e.KaraSqr(a, e.Sqr)
	if !ok {
		t.Fatal("KaraSqr: false")
	}
	words(t, "KaraSqr", c, square(a))
	is(t, "Muls", e.Muls(), 57+10+10+15)
	is(t, "Deep", e.Engine.Engine.Deep(), 1)
	// Mul is by hand at any length.
	e.Reset()
	a, b = s.row(40), s.row(40)
	words(t, "Mul", e.Mul(a, b), product(a, b))
	is(t, "Muls", e.Muls(), 1600)
	is(t, "Deep", e.Deep(), 0)
}

// P11.2: Toom and ToomSqr

// What inner is called with, told by numbers: the lengths of both at 0, at 1, -1 and 2, and at infinity; none where the answer is false.
var lengths = []struct {
	n, m int
	want [][2]int
}{
	{0, 0, nil}, {1, 0, nil}, {1, 1, nil}, {2, 2, nil},
	{3, 2, nil},
	{3, 3, [][2]int{{1, 1}, {2, 2}, {1, 1}}},
	{4, 4, nil},
	{5, 4, nil},
	{5, 5, [][2]int{{2, 2}, {3, 3}, {1, 1}}},
	{6, 4, nil},
	{6, 5, [][2]int{{2, 2}, {3, 3}, {2, 1}}},
	{6, 6, [][2]int{{2, 2}, {3, 3}, {2, 2}}},
	{7, 6, nil},
	{7, 7, [][2]int{{3, 3}, {4, 4}, {1, 1}}},
	{8, 6, nil},
	{8, 7, [][2]int{{3, 3}, {4, 4}, {2, 1}}},
	{9, 6, nil},
	{9, 7, [][2]int{{3, 3}, {4, 4}, {3, 1}}},
	{9, 9, [][2]int{{3, 3}, {4, 4}, {3, 3}}},
	{10, 8, nil},
	{10, 9, [][2]int{{4, 4}, {5, 5}, {2, 1}}},
	{12, 8, nil},
	{12, 9, [][2]int{{4, 4}, {5, 5}, {4, 1}}},
	{30, 20, nil},
	{30, 21, [][2]int{{10, 10}, {11, 11}, {10, 1}}},
	{100, 68, nil},
	{100, 69, [][2]int{{34, 34}, {35, 35}, {32, 1}}},
}

func TestLengths(t *testing.T) {
	e := toom.New(api.Table{})
	for _, c := range lengths {
		var want [][2]int
		if c.want != nil {
			want = [][2]int{c.want[0], c.want[1], c.want[1], c.want[1], c.want[2]}
		}
		for _, w := range []uint64{0, 1, most} {
			for _, pair := range [][2]int{{c.n, c.m}, {c.m, c.n}} {
				var got [][2]int
				_, ok := e.Toom(same(w, pair[0]), same(w, pair[1]), func(p, q api.Nat) api.Nat {
					got = append(got, [2]int{len(p), len(q)})
					return product(p, q)
				})
				if ok != (want != nil) || !slices.Equal(got, want) {
					t.Errorf("%d by %d: %v, %v; asked is %v", pair[0], pair[1], ok, got, want)
				}
			}
			if c.n != c.m {
				continue
			}
			var got [][2]int
			_, ok := e.ToomSqr(same(w, c.n), func(p api.Nat) api.Nat {
				got = append(got, [2]int{len(p), len(p)})
				return square(p)
			})
			if ok != (want != nil) || !slices.Equal(got, want) {
				t.Errorf("the square of %d: %v, %v; asked is %v", c.n, ok, got, want)
			}
		}
	}
}

// Of two as long, the first one is a's.
func TestFirst(t *testing.T) {
	e := toom.New(api.Table{})
	for _, swapped := range []bool{false, true} {
		a, b := api.Nat{1, 10, 2}, api.Nat{3, 4, 5}
		x, y := []uint64{1, 13, 7, 29, 2}, []uint64{3, 12, 4, 31, 5}
		if swapped {
			a, b, x, y = b, a, y, x
		}
		calls := 0
		c, ok := e.Toom(a, b, func(p, q api.Nat) api.Nat {
			if p[0] != x[calls] || q[0] != y[calls] {
				t.Errorf("the call %d: %v by %v; asked is %d by %d", calls, p, q, x[calls], y[calls])
			}
			calls++
			return product(p, q)
		})
		if !ok {
			t.Fatal("false")
		}
		words(t, "Toom", c, api.Nat{3, 34, 51, 58, 10})
	}
	// Of two lengths, it is the longer one's, whichever is handed in first.
	long, short := api.Nat{1, 0, 10, 0, 2, 0}, api.Nat{3, 0, 4, 0, 5}
	for _, pair := range [][2]api.Nat{{long, short}, {short, long}} {
		var firsts, seconds []uint64
		_, ok := e.Toom(pair[0], pair[1], func(p, q api.Nat) api.Nat {
			firsts, seconds = append(firsts, p[0]), append(seconds, q[0])
			return product(p, q)
		})
		if !ok || !slices.Equal(firsts, []uint64{1, 13, 7, 29, 2}) || !slices.Equal(seconds, []uint64{3, 12, 4, 31, 5}) {
			t.Error(ok, firsts, seconds)
		}
	}
}

func TestAllLengths(t *testing.T) {
	e := toom.New(api.Table{})
	s := source(11)
	for n := range 46 {
		for m := range 46 {
			checkToom(t, e, s.row(n), s.row(m), product)
			checkToom(t, e, same(most, n), same(most, m), product)
		}
		for range 4 {
			checkSqr(t, e, s.row(n), square)
		}
		checkSqr(t, e, same(most, n), square)
	}
	is(t, "Deep", e.Deep(), 1)
}

// Noughts on top and at the bottom of each piece change no length; sums of the greatest words carry.
func TestPieces(t *testing.T) {
	e := toom.New(api.Table{})
	for _, n := range []int{3, 5, 6, 8, 9, 11, 12, 14} {
		k := (n + 2) / 3
		for m := 2 * k; m <= n; m++ {
			for _, a := range rows(n, k) {
				for _, b := range rows(m, k) {
					checkToom(t, e, a, b, product)
					checkToom(t, e, b, a, product)
				}
			}
		}
		for _, a := range rows(n, k) {
			checkSqr(t, e, a, square)
		}
	}
}

// signed is a row of pieces of k words, the third one of n - 2 k, whose value at -1 has this sign.
func signed(s *source, n, k, sign int) api.Nat {
	a := s.row(n)
	clear(a[k-1 : k])
	clear(a[n-1:])
	a[0] |= 1
	switch sign {
	case -1:
		a[2*k-1] = most
	case 0:
		copy(a[k:2*k], wordsOf(new(big.Int).Add(great(a[:k]), great(a[2*k:])), k))
	case 1:
		a[2*k-1] = 0
		a[k-1] = most
	}
	return a
}

// The values at -1 have either sign, or are 0: of both, of one, of none.
func TestSigns(t *testing.T) {
	e := toom.New(api.Table{})
	s := source(12)
	for n := 5; n < 24; n++ {
		k := (n + 2) / 3
		for m := 2*k + 1; m <= n; m++ {
			for _, signA := range []int{-1, 0, 1} {
				for _, signB := range []int{-1, 0, 1} {
					a, b := signed(&s, n, k, signA), signed(&s, m, k, signB)
					is(t, "a's sign", at(a, k, -1).Sign(), signA)
					is(t, "b's sign", at(b, k, -1).Sign(), signB)
					checkToom(t, e, a, b, product)
					checkToom(t, e, b, a, product)
					if m == n {
						checkSqr(t, e, a, square)
					}
				}
			}
		}
	}
}

// What inner answers may have noughts on top, or none at all, or lie in memory with spare room.
func TestAnswersOfInner(t *testing.T) {
	e := toom.New(api.Table{})
	s := source(13)
	for n := range 20 {
		for m := range 20 {
			for _, a := range []api.Nat{same(most, n), make(api.Nat, n), same(1, n), s.row(n)} {
				b := same(most, m)
				checkToom(t, e, a, b, padded)
				checkToom(t, e, a, b, spare)
				checkSqr(t, e, a, func(a api.Nat) api.Nat { return padded(a, a) })
				checkSqr(t, e, a, func(a api.Nat) api.Nat { return spare(a, a) })
			}
		}
	}
}

// What is handed to inner is its own: it may write there, and hand it out.
func TestInnerThatWrites(t *testing.T) {
	e := toom.New(api.Table{})
	s := source(14)
	for n := 3; n < 20; n++ {
		for m := (n+2)/3*2 + 1; m <= n; m++ {
			a, b := s.row(n), s.row(m)
			checkToom(t, e, a, b, func(p, q api.Nat) api.Nat {
				c := product(p, q)
				copy(p, same(11, len(p)))
				copy(q, same(13, len(q)))
				return c
			})
			checkSqr(t, e, a, func(p api.Nat) api.Nat {
				c := square(p)
				copy(p, same(11, len(p)))
				return c
			})
		}
	}
	// By 1 + B + B B, whose values are 1, 3, 1, 7 and 1, inner may hand out its first one.
	a := api.Nat{5, 7, 4}
	c, ok := e.Toom(a, api.Nat{1, 1, 1}, func(p, q api.Nat) api.Nat {
		p[0] *= q[0]
		return p
	})
	if !ok {
		t.Fatal("false")
	}
	words(t, "Toom", c, api.Nat{5, 12, 16, 11, 4})
	words(t, "a", a, api.Nat{5, 7, 4})
}

// A number by itself is cut twice, each time into memory of its own.
func TestOneRowTwice(t *testing.T) {
	e := toom.New(api.Table{})
	s := source(15)
	for n := range 20 {
		checkToom(t, e, same(most, n), same(most, n), product)
		a := s.row(n)
		checkToom(t, e, a, a, func(p, q api.Nat) api.Nat {
			c := product(p, q)
			p[0], q[0] = 3, 4
			if p[0] != 3 {
				t.Fatal("both pieces lie in one memory")
			}
			return c
		})
	}
}

// Levels

func TestLevels(t *testing.T) {
	e := toom.New(api.Table{})
	s := source(16)
	for level := range 5 {
		is(t, "Now", e.Now(), level)
		checkToom(t, e, s.row(9), s.row(8), product)
		is(t, "Deep", e.Deep(), level+1)
		checkSqr(t, e, s.row(9), square)
		checkToom(t, e, s.row(9), s.row(6), product)
		checkSqr(t, e, s.row(4), square)
		is(t, "Deep", e.Deep(), level+1)
		e.Enter()
	}
	is(t, "Muls", e.Muls(), 0)
}

// A square enters its level by itself, too.
func TestLevelOfASquare(t *testing.T) {
	e := toom.New(api.Table{})
	checkSqr(t, e, same(3, 5), square)
	is(t, "Deep", e.Deep(), 1)
	is(t, "Now", e.Now(), 0)
}

// Where the answer is false, nothing is multiplied, and no level is entered.
func TestRefusals(t *testing.T) {
	e := toom.New(api.Table{})
	s := source(17)
	e.Spend(7)
	for n := range 60 {
		for m := range (n+2)/3*2 + 1 {
			c, ok := e.Toom(s.row(n), s.row(min(m, n)), neverMul(t))
			refused(t, "Toom", c, ok)
			c, ok = e.Toom(s.row(min(m, n)), s.row(n), neverMul(t))
			refused(t, "Toom", c, ok)
		}
	}
	for _, a := range []api.Nat{nil, {}, {0}, {1}, {most}, {0, 0}, {1, 2}, {most, most}, {0, 0, 0, 0}, {1, 2, 3, 4}, same(most, 4)} {
		c, ok := e.ToomSqr(a, neverSqr(t))
		refused(t, "ToomSqr", c, ok)
		for _, b := range []api.Nat{nil, {}, {0}, {1}, {most}, {0, 0}, {1, 2}, {most, most}} {
			c, ok := e.Toom(a, b, neverMul(t))
			refused(t, "Toom", c, ok)
			c, ok = e.Toom(b, a, neverMul(t))
			refused(t, "Toom", c, ok)
		}
	}
	is(t, "Now", e.Now(), 0)
	is(t, "Deep", e.Deep(), 0)
	is(t, "Muls", e.Muls(), 7)
}

// Each call within one is one level deeper, and each leaves its own again.
func TestWithinOneAnother(t *testing.T) {
	e := toom.New(api.Table{})
	s := source(18)
	a, b := s.row(15), s.row(15)
	var levels []int
	var down func(p, q api.Nat) api.Nat
	down = func(p, q api.Nat) api.Nat {
		levels = append(levels, e.Now())
		if len(p) >= 5 {
			if c, ok := e.Toom(p, q, down); ok {
				return c
			}
		}
		return product(p, q)
	}
	words(t, "Toom", down(a, b), product(a, b))
	// 15: 5, 6, 6, 6, 5; 5: 2, 3, 3, 3, 1; 6: 2, 3, 3, 3, 2.
	want := slices.Concat([]int{0}, slices.Repeat([]int{1, 2, 2, 2, 2, 2}, 5))
	if !slices.Equal(levels, want) {
		t.Errorf("%v; asked is %v", levels, want)
	}
	is(t, "Now", e.Now(), 0)
	is(t, "Deep", e.Deep(), 2)
	is(t, "Muls", e.Muls(), 0)
}

// P11.2: inner is the engine's own call

// bothCost is what Both spends, by the lengths alone.
func bothCost(base, n, m int) int {
	n, m = max(n, m), min(n, m)
	h := (n + 1) / 2
	if m < base || m <= h {
		return n * m
	}
	return bothCost(base, h, h) + bothCost(base, n-h, m-h) + bothCost(base, h+1, h+1)
}

func TestEnginesOwn(t *testing.T) {
	e := toom.New(table.Least(4))
	s := source(20)
	for n := range 45 {
		for m := range n + 1 {
			k := (n + 2) / 3
			a, b := s.row(n), s.row(m)
			byHand, byBoth := 0, 0
			if m > 2*k {
				byHand = k*k + 3*(k+1)*(k+1) + (n-2*k)*(m-2*k)
				byBoth = bothCost(4, k, k) + 3*bothCost(4, k+1, k+1) + bothCost(4, n-2*k, m-2*k)
			}
			for _, pair := range [][2]api.Nat{{a, b}, {b, a}} {
				e.Reset()
				c, ok := e.Toom(pair[0], pair[1], e.Mul)
				if ok != (m > 2*k) || ok && !slices.Equal(c, product(a, b)) {
					t.Fatal("by Mul", n, m, ok)
				}
				is(t, "by Mul", e.Muls(), byHand)
				e.Reset()
				c, ok = e.Toom(pair[0], pair[1], e.Both)
				if ok != (m > 2*k) || ok && !slices.Equal(c, product(a, b)) {
					t.Fatal("by Both", n, m, ok)
				}
				is(t, "by Both", e.Muls(), byBoth)
				is(t, "Now", e.Now(), 0)
			}
		}
	}
}

func TestSquaresByTheEnginesOwn(t *testing.T) {
	e := toom.New(table.Least(4))
	s := source(21)
	byHand := func(n int) int { return n * (n + 1) / 2 }
	for n := range 60 {
		a := s.row(n)
		k, spent, both := (n+2)/3, 0, 0
		if n > 2*k {
			spent = byHand(k) + 3*byHand(k+1) + byHand(n-2*k)
			both = bothCost(4, k, k) + 3*bothCost(4, k+1, k+1) + bothCost(4, n-2*k, n-2*k)
		}
		e.Reset()
		c, ok := e.ToomSqr(a, e.Sqr)
		if ok != (n > 2*k) || ok && !slices.Equal(c, square(a)) {
			t.Fatal(n, ok)
		}
		is(t, "by Sqr", e.Muls(), spent)
		e.Reset()
		c, ok = e.ToomSqr(a, func(p api.Nat) api.Nat { return e.Both(p, p) })
		if ok != (n > 2*k) || ok && !slices.Equal(c, square(a)) {
			t.Fatal(n, ok)
		}
		is(t, "by Both", e.Muls(), both)
		is(t, "Now", e.Now(), 0)
	}
}

// In three pieces all the way down, as the table's route Toom says, it costs what the table says.
func TestAsTheTableSays(t *testing.T) {
	x := table.Least(4, 12, math.MaxInt)
	e := toom.New(x)
	var down func(p, q api.Nat) api.Nat
	down = func(p, q api.Nat) api.Nat {
		switch e.Route(len(p), len(q)) {
		case table.Toom:
			c, _ := e.Toom(p, q, down)
			return c
		case table.Kara:
			c, _ := e.Kara(p, q, down)
			return c
		}
		return e.Mul(p, q)
	}
	var downSqr func(p api.Nat) api.Nat
	downSqr = func(p api.Nat) api.Nat {
		switch e.Route(len(p), len(p)) {
		case table.Toom:
			c, _ := e.ToomSqr(p, downSqr)
			return c
		case table.Kara:
			c, _ := e.KaraSqr(p, downSqr)
			return c
		}
		return e.Sqr(p)
	}
	s := source(22)
	for _, n := range []int{11, 12, 13, 14, 15, 36, 37, 38, 100, 333, 1000} {
		for _, a := range []api.Nat{s.row(n), same(most, n), make(api.Nat, n)} {
			b := s.row(n)
			e.Reset()
			words(t, "Toom", down(a, b), product(a, b))
			is(t, "Muls", e.Muls(), table.Cost(x, n, n))
			e.Reset()
			words(t, "ToomSqr", downSqr(a), square(a))
			is(t, "Muls", e.Muls(), table.Square(x, n))
			is(t, "Now", e.Now(), 0)
		}
	}
}

// No entry of the table changes what is done.
func TestTables(t *testing.T) {
	s := source(23)
	a, b := s.row(20), s.row(19)
	for _, x := range []api.Table{
		{}, table.Least(64, 8192, 16384), table.Least(math.MaxInt, math.MaxInt, math.MaxInt, math.MaxInt), table.Least(-5, math.MinInt, 3), table.Least(6, 12, 64, 4, 4, 2, 2, 4, 4, 2, 2),
	} {
		e := toom.New(x)
		for n := range 21 {
			checkToom(t, e, a, b[:min(n, 19)], product)
			checkSqr(t, e, a[:n], square)
		}
	}
}

// The longest rows that may be handed in.
func TestMostWords(t *testing.T) {
	e := toom.New(table.Least(64))
	s := source(24)
	a, b := s.row(api.MaxWords), s.row(api.MaxWords)
	greatest := same(most, api.MaxWords)
	k := (api.MaxWords + 2) / 3
	checkToom(t, e, a, b, product)
	checkToom(t, e, greatest, greatest, product)
	checkToom(t, e, a, greatest, product)
	for _, m := range []int{0, 1, 2*k - 1, 2 * k, 2*k + 1, api.MaxWords - 1} {
		checkToom(t, e, a, s.row(m), product)
		checkToom(t, e, greatest[:m], a, product)
	}
	for n := api.MaxWords - 3; n <= api.MaxWords; n++ {
		checkSqr(t, e, a[:n], square)
		checkSqr(t, e, greatest[:n], square)
	}
}

// R4: memory

// walled is a row with a wall behind its length, and the memory of both.
func walled(a api.Nat) (row, memory api.Nat) {
	memory = slices.Concat(a, same(0x5a5a, 8))
	return memory[:len(a)], memory
}

func TestHandedInIsLeft(t *testing.T) {
	e := toom.New(table.Least(4))
	s := source(28)
	for n := range 20 {
		for m := range 20 {
			a, behindA := walled(s.row(n))
			b, behindB := walled(s.row(m))
			keptA, keptB := slices.Clone(behindA), slices.Clone(behindB)
			toom.Third(a)
			toom.Points(a, m)
			e.Toom(a, b, product)
			e.Toom(a, b, e.Both)
			e.ToomSqr(a, square)
			e.ToomSqr(b, e.Sqr)
			words(t, "a", behindA, keptA)
			words(t, "b", behindB, keptB)
		}
	}
}

// What lies behind a length is not read, by inner either.
func TestBehindIsNotRead(t *testing.T) {
	e := toom.New(table.Least(4))
	s := source(29)
	for n := range 20 {
		for m := range 20 {
			a, _ := walled(s.row(n))
			b, _ := walled(s.row(m))
			reading := func(p, q api.Nat) api.Nat {
				if slices.Contains(p[:cap(p)][len(p):], 0x5a5a) || slices.Contains(q[:cap(q)][len(q):], 0x5a5a) {
					t.Error("a piece reaches behind what was handed in")
				}
				return product(p, q)
			}
			checkThird(t, a)
			checkPoints(t, a, m)
			checkToom(t, e, a, b, reading)
			checkSqr(t, e, a, func(p api.Nat) api.Nat { return reading(p, p) })
		}
	}
}

// overwrite fills a row and its spare room.
func overwrite(a api.Nat, w uint64) {
	a = a[:cap(a)]
	for i := range a {
		a[i] = w
	}
}

// apart says that no two of the rows share memory, spare room too: what is written into one is seen in no other.
func apart(t *testing.T, told string, list ...api.Nat) {
	t.Helper()
	for i, a := range list {
		overwrite(a, uint64(1000+i))
	}
	for i, a := range list {
		for _, w := range a[:cap(a)] {
			if w != uint64(1000+i) {
				t.Fatalf("%s: two rows share memory", told)
			}
		}
	}
}

func TestPointsAreNew(t *testing.T) {
	for n := range 16 {
		for k := range n + 2 {
			for _, row := range rows(n, max(k, 1)) {
				a, memory := walled(row)
				p0, p1, m1, p2, inf := toom.Points(a, k)
				apart(t, "Points", memory, p0.Nat, p1.Nat, m1.Nat, p2.Nat, inf.Nat)
			}
		}
	}
}

func TestThirdIsNew(t *testing.T) {
	for n := range 16 {
		for _, row := range rows(n, 3) {
			a, memory := walled(row)
			third, _ := toom.Third(a)
			apart(t, "Third", memory, third)
		}
	}
}

func TestHandedOutIsNew(t *testing.T) {
	e := toom.New(table.Least(4))
	s := source(30)
	for n := range 20 {
		for m := range 20 {
			a, behindA := walled(s.row(n))
			b, behindB := walled(s.row(m))
			list := []api.Nat{behindA, behindB}
			c, ok := e.Toom(a, b, func(p, q api.Nat) api.Nat {
				c := append(product(p, q), 0)
				list = append(list, p, q, c)
				return c
			})
			if ok {
				words(t, "Toom", c, product(a, b))
			}
			d, ok := e.ToomSqr(a, func(p api.Nat) api.Nat {
				d := append(square(p), 0)
				list = append(list, p, d)
				return d
			})
			if ok {
				words(t, "ToomSqr", d, square(a))
			}
			apart(t, "Toom and ToomSqr", append(list, c, d)...)
		}
	}
}

// R5: what was asked before changes no answer.
func TestOrder(t *testing.T) {
	s := source(31)
	a, b := s.row(23), s.row(19)
	fresh, used := toom.New(table.Least(5)), toom.New(table.Least(5))
	for n := range 30 {
		used.Toom(s.row(n), s.row(n), used.Both)
		used.Toom(s.row(n), s.row(3), product)
		used.ToomSqr(s.row(n), used.Sqr)
	}
	used.Enter()
	before := used.Muls()
	c, _ := used.Toom(a, b, used.Both)
	d, _ := fresh.Toom(a, b, fresh.Both)
	words(t, "Toom", c, d)
	is(t, "Muls", used.Muls()-before, fresh.Muls())
	is(t, "Now", used.Now(), 1)
	for _, e := range []*toom.Engine{fresh, used} {
		checkToom(t, e, a, b, product)
		checkSqr(t, e, a, square)
	}
}
