package root_test

import (
	"fmt"
	"slices"
	"testing"

	"ziggurat/api"
	"ziggurat/div"
	"ziggurat/root"
	"ziggurat/table"
)

// P16.1: New, and what is promoted

func TestNew(t *testing.T) {
	for _, x := range tables() {
		e := root.New(x)
		clamped := table.Clamp(x)
		if e.Table != clamped || e.Engine.Table != div.New(x).Table {
			t.Errorf("%v: %v", x, e.Table)
		}
		entries := []int{e.Base, e.Table.Toom, e.Ntt, e.Div, e.Table.Recip, e.Lehmer, e.Radix, e.Poly, e.Kron, e.Series, e.Tree}
		asked := []int{clamped.Base, clamped.Toom, clamped.Ntt, clamped.Div, clamped.Recip, clamped.Lehmer, clamped.Radix, clamped.Poly, clamped.Kron, clamped.Series, clamped.Tree}
		if !slices.Equal(entries, asked) {
			t.Errorf("%v: %v", x, entries)
		}
		is(t, "Muls", e.Muls(), 0)
		is(t, "Now", e.Now(), 0)
		is(t, "Deep", e.Deep(), 0)
		if other := root.New(x); other == e || other.Engine == e.Engine || other.Tune == e.Tune {
			t.Error("two engines have one meter")
		}
	}
}

// Two engines spend each for itself.
func TestTwoMeters(t *testing.T) {
	e, other := root.New(table.Least(4, 12, 64, 9)), root.New(api.Table{})
	e.Sqrt(same(3, 8))
	other.Enter()
	if e.Muls() == 0 {
		t.Error("a root of 8 words is had for nothing")
	}
	is(t, "Muls of the other", other.Muls(), 0)
	is(t, "Now", e.Now(), 0)
	is(t, "Now of the other", other.Now(), 1)
}

// The method Square answers a root, the function table.Square what a square costs: both are at hand, and neither hides the other.
func TestTwoSquares(t *testing.T) {
	byEach(t, func(t *testing.T, x api.Table) {
		e := root.New(x)
		s := source(30)
		for _, n := range []int{1, 2, 5, 13, 40} {
			a := s.row(n)
			e.Reset()
			p := e.Sqr(a)
			is(t, "Muls of Sqr", e.Muls(), table.Square(e.Table, n))
			words(t, "Sqr", p, product(a, a))
			answer, ok := e.Square(p)
			words(t, "Square", answer, a)
			if !ok {
				t.Fatal("Square: false of a square")
			}
		}
	})
}

// The products of the engines below can be asked through this one.
func TestPromoted(t *testing.T) {
	e := root.New(table.Least(4))
	s := source(31)
	a, b := s.row(9), s.row(9)
	ab, aa := product(a, b), product(a, a)
	multiplier := e.Engine.Engine.Engine.Engine // div's, recip's, divs's, mul's
	hand := multiplier.Engine.Engine.Engine     // toom's, kara's, school's
	for _, c := range []struct {
		name  string
		ask   func() (api.Nat, bool)
		want  api.Nat
		spent int
	}{
		{"Mul", func() (api.Nat, bool) { return e.Mul(a, b), true }, ab, table.Cost(e.Table, 9, 9)},
		{"Sqr", func() (api.Nat, bool) { return e.Sqr(a), true }, aa, table.Square(e.Table, 9)},
		{"Product", func() (api.Nat, bool) { return e.Product(a, b), true }, ab, table.Cost(e.Table, 9, 9)},
		{"Product of three", func() (api.Nat, bool) { return e.Product(api.Nat{2}, api.Nat{3}, api.Nat{7}), true }, api.Nat{42}, 2},
		{"Product of none", func() (api.Nat, bool) { return e.Product(), true }, api.Nat{1}, 0},
		{"mul's By", func() (api.Nat, bool) { return multiplier.By(table.School, a, b) }, ab, 81},
		{"Toom", func() (api.Nat, bool) { return e.Toom(a, b, hand.Mul) }, ab, 9 + 3*16 + 9},
		{"ToomSqr", func() (api.Nat, bool) { return e.ToomSqr(a, hand.Sqr) }, aa, 6 + 3*10 + 6},
		{"Kara", func() (api.Nat, bool) { return e.Kara(a, b, hand.Mul) }, ab, 25 + 16 + 36},
		{"KaraSqr", func() (api.Nat, bool) { return e.KaraSqr(a, hand.Sqr) }, aa, 15 + 10 + 21},
		{"Both", func() (api.Nat, bool) { return e.Both(a, b), true }, ab, table.Cost(e.Table, 9, 9)},
		{"Mul by hand", func() (api.Nat, bool) { return hand.Mul(a, b), true }, ab, 81},
		{"Power", func() (api.Nat, bool) { return e.Power(api.Nat{3}, 5), true }, api.Nat{243}, 5},
	} {
		e.Reset()
		got, ok := c.ask()
		if !ok {
			t.Fatalf("%s: false", c.name)
		}
		words(t, c.name, got, c.want)
		is(t, c.name+": Muls", e.Muls(), c.spent)
		is(t, c.name+": Now", e.Now(), 0)
	}
}

// So can their divisions: By is recip's.
func TestPromotedDivision(t *testing.T) {
	e := root.New(table.Least(4))
	for _, c := range []struct {
		name string
		ask  func(a, b api.Nat) (q, r api.Nat, err api.Errno)
	}{
		{"DivMod", e.DivMod},
		{"Halves", e.Halves},
		{"Long", e.Long},
		{"By", func(a, b api.Nat) (q, r api.Nat, err api.Errno) {
			v, _ := e.Recip(b, 64*9)
			return e.By(a, b, v, 64*9)
		}},
	} {
		q, r, err := c.ask(api.Nat{9, 120, 230, 300}, api.Nat{1, 2, 3})
		fine(t, c.name, err)
		words(t, c.name, q, api.Nat{9, 100})
		words(t, c.name, r, api.Nat{0, 2, 3})
		q, r, err = c.ask(api.Nat{5}, api.Nat{0})
		refused(t, c.name, err, api.ErrZero, q, r)
	}
	v, err := e.Recip(api.Nat{3}, 4)
	fine(t, "Recip", err)
	words(t, "Recip", v, api.Nat{5})
	v, err = e.Exact(api.Nat{42}, api.Nat{6})
	fine(t, "Exact", err)
	words(t, "Exact", v, api.Nat{7})
	v, err = e.Exact(api.Nat{41}, api.Nat{6})
	refused(t, "Exact", err, api.ErrExact, v)
	for _, f := range []func(a api.Nat, l ...api.Nat) ([]api.Nat, api.Errno){e.Mod, e.LongMod} {
		list, err := f(api.Nat{100}, api.Nat{7}, api.Nat{200}, api.Nat{10})
		fine(t, "remainders", err)
		is(t, "how many", len(list), 3)
		for i, asked := range []api.Nat{{2}, {100}, nil} {
			words(t, "remainders", list[i], asked)
		}
	}
	for last, asked := range map[uint64]bool{12: true, 13: false} {
		all, err := e.Divides(api.Nat{3}, api.Nat{9}, nil, api.Nat{last})
		fine(t, "Divides", err)
		if all != asked {
			t.Errorf("Divides of %d: %v", last, all)
		}
	}
}

// What this engine spends is to be seen through the engines below, and what they spend through this one.
func TestOneMeter(t *testing.T) {
	e := root.New(table.Least(4, 12, 64, 9))
	e.Root(same(3, 8), 3)
	spent := e.Muls()
	if spent == 0 {
		t.Error("a root of 8 words is had for nothing")
	}
	is(t, "Muls of div", e.Engine.Muls(), spent)
	is(t, "Muls of recip", e.Engine.Engine.Muls(), spent)
	is(t, "Muls of the tune", e.Tune.Muls(), spent)
	e.Engine.Mul(same(9, 4), same(5, 4))
	is(t, "Muls", e.Muls(), spent+17)
	is(t, "Spend", e.Spend(5), spent+22)
	is(t, "Route", e.Route(9, 9), table.Kara)
	is(t, "Enter", e.Enter(), 1)
	is(t, "Enter", e.Enter(), 2)
	is(t, "Now", e.Now(), 2)
	is(t, "Leave", e.Leave(), 1)
	is(t, "Deep", e.Deep(), 2)
	e.Reset()
	is(t, "Muls", e.Muls(), 0)
	is(t, "Now", e.Now(), 0)
	is(t, "Deep", e.Deep(), 0)
}

// Behind each call the level is as it was, whatever was entered before.
func TestLevelIsLeft(t *testing.T) {
	byEach(t, func(t *testing.T, x api.Table) {
		e := root.New(x)
		s := source(32)
		for n := range 80 {
			level := e.Enter()
			a := s.row(n)
			e.Sqrt(a)
			is(t, "Sqrt: Now", e.Now(), level)
			e.Square(a)
			is(t, "Square: Now", e.Now(), level)
			for _, k := range []int{-1, 0, 1, 2, 3, 12, 64, 65} {
				e.Root(a, k)
				is(t, fmt.Sprintf("Root, k %d: Now", k), e.Now(), level)
			}
		}
	})
}

// Zero words on top are nothing: they change neither the answer nor what is spent.
func TestZeroWordsOnTop(t *testing.T) {
	byEach(t, func(t *testing.T, x api.Table) {
		s := source(33)
		for _, n := range []int{0, 1, 2, 3, 7, 8, 20, 33, 64, 130} {
			a := s.row(n)
			plain := root.New(x)
			asked, rest := plain.Sqrt(a)
			third, _ := plain.Root(a, 3)
			last, _ := plain.Root(a, 64)
			square, ok := plain.Square(a)
			for _, more := range []int{1, 2, 5, 90, 5000} {
				e := root.New(x)
				b := topped(a, more)
				s, r := e.Sqrt(b)
				words(t, "Sqrt", s, asked)
				words(t, "what is left", r, rest)
				checkRootIs(t, e, b, 3, third)
				checkRootIs(t, e, b, 64, last)
				s, other := e.Square(b)
				words(t, "Square", s, square)
				if other != ok {
					t.Fatalf("Square: %v", other)
				}
				is(t, "Muls", e.Muls(), plain.Muls())
				is(t, "Deep", e.Deep(), plain.Deep())
			}
		}
	})
}

// R4: memory

// walled is a row with a wall behind its length, and the memory of both.
func walled(a api.Nat) (row, memory api.Nat) {
	memory = slices.Concat(a, same(0x5a5a, 8))
	return memory[:len(a)], memory
}

// some are numbers of all kinds, squares and powers among them.
func some() []api.Nat {
	s := source(34)
	list := []api.Nat{nil, {}, {0}, {1}, {2}, {3}, {most}, {0, 1}, {0, 0}, same(most, 4), same(most, 9), power(640), power(641)}
	for n := 1; n < 60; n += 1 + n/3 {
		a := s.row(n)
		list = append(list, a, topped(a, 1+n%3), product(a, a), topped(product(a, a), 1), raised(a, 3), raised(a[:1], 64))
	}
	return list
}

// What is handed in is left, and what lies behind its length, too; that is not read, either.
func TestHandedInIsLeft(t *testing.T) {
	byEach(t, func(t *testing.T, x api.Table) {
		e := root.New(x)
		for _, asked := range some() {
			a, memory := walled(asked)
			kept := slices.Clone(memory)
			for _, k := range []int{0, 1, 2, 3, 4, 7, 33, 64, 65} {
				if k < 1 || k > 64 {
					e.Root(a, k)
					continue
				}
				check(t, e, a, k)
			}
			words(t, "what was handed in", memory, kept)
		}
	})
}

// overwrite fills a row and its spare room.
func overwrite(a api.Nat, w uint64) {
	a = a[:cap(a)]
	for i := range a {
		a[i] = w
	}
}

// apart says that no two of the rows share memory, spare room too: what is written into one is seen in no other.
func apart(t *testing.T, told string, list ...api.Nat) {
	t.Helper()
	for i, a := range list {
		overwrite(a, uint64(1000+i))
	}
	for i, a := range list {
		for _, w := range a[:cap(a)] {
			if w != uint64(1000+i) {
				t.Fatalf("%s: two rows share memory", told)
			}
		}
	}
}

// Each row handed out is new memory: it shares none with another, nor with what was handed in; so s and r.
func TestHandedOutIsNew(t *testing.T) {
	byEach(t, func(t *testing.T, x api.Table) {
		e := root.New(x)
		for _, asked := range some() {
			a, memory := walled(asked)
			list := []api.Nat{memory}
			for range 2 {
				s, r := e.Sqrt(a)
				square, _ := e.Square(a)
				list = append(list, s, r, square)
				for _, k := range []int{1, 2, 3, 4, 7, 33, 64} {
					x, _ := e.Root(a, k)
					list = append(list, x)
				}
			}
			apart(t, fmt.Sprintf("answers of %d words", len(a)), list...)
		}
	})
}

// What was handed in is not kept: it may be overwritten behind a call, and answers are as they were.
func TestNothingIsKept(t *testing.T) {
	byEach(t, func(t *testing.T, x api.Table) {
		e := root.New(x)
		for _, a := range some() {
			a = slices.Clone(a)
			askedS, askedR := squareRoot(a)
			one := slices.Clone(a[:a.Len()])
			s, r := e.Sqrt(a)
			square, ok := e.Square(a)
			first, _ := e.Root(a, 1)
			second, _ := e.Root(a, 2)
			third := checkRoot(t, e, a, 3)
			kept := slices.Clone(third)
			overwrite(a, 99)
			words(t, "Sqrt", s, askedS)
			words(t, "what is left", r, askedR)
			words(t, "Root, k 1", first, one)
			words(t, "Root, k 2", second, askedS)
			words(t, "Root, k 3", third, kept)
			if ok {
				words(t, "Square", square, askedS)
			}
		}
	})
}

// R5: what was asked before, errors too, changes no answer, nor what is spent for it.
func TestOrder(t *testing.T) {
	byEach(t, func(t *testing.T, x api.Table) {
		s := source(35)
		a := s.row(100)
		fresh, used := root.New(x), root.New(x)
		for n := range 30 {
			used.Sqrt(s.row(3 * n))
			used.Square(s.row(2 * n))
			used.Root(s.row(2*n), n+1)
			used.Root(a, 65+n)
			used.DivMod(a, nil)
		}
		used.Enter()
		before := used.Muls()
		for _, e := range []*root.Engine{fresh, used} {
			askedS, askedR := squareRoot(a)
			s, r := e.Sqrt(a)
			words(t, "Sqrt", s, askedS)
			words(t, "what is left", r, askedR)
			e.Square(a)
			e.Root(a, 3)
			e.Root(a, 64)
		}
		is(t, "Muls", used.Muls()-before, fresh.Muls())
		is(t, "Now", used.Now(), 1)
	})
}
