package radix_test

import (
	"fmt"
	"slices"
	"strings"
	"testing"

	"ziggurat/api"
	"ziggurat/limb"
	"ziggurat/radix"
	"ziggurat/root"
	"ziggurat/table"
)

// P17.1: New, and what is promoted

func TestNew(t *testing.T) {
	for _, x := range tables() {
		e := radix.New(x)
		clamped := table.Clamp(x)
		if e.Table != clamped || e.Engine.Table != root.New(x).Table {
			t.Errorf("%v: %v", x, e.Table)
		}
		entries := []int{e.Base, e.Table.Toom, e.Ntt, e.Div, e.Table.Recip, e.Lehmer, e.Radix, e.Poly, e.Kron, e.Series, e.Tree}
		asked := []int{clamped.Base, clamped.Toom, clamped.Ntt, clamped.Div, clamped.Recip, clamped.Lehmer, clamped.Radix, clamped.Poly, clamped.Kron, clamped.Series, clamped.Tree}
		if !slices.Equal(entries, asked) {
			t.Errorf("%v: %v", x, entries)
		}
		is(t, "Muls", e.Muls(), 0)
		is(t, "Now", e.Now(), 0)
		is(t, "Deep", e.Deep(), 0)
		if other := radix.New(x); other == e || other.Engine == e.Engine || other.Tune == e.Tune {
			t.Error("two engines have one meter")
		}
	}
}

// Two engines spend each for itself.
func TestTwoMeters(t *testing.T) {
	e, other := radix.New(table.Least(4, 12, 64, 9)), radix.New(api.Table{})
	e.Text(same(3, 8), 10)
	other.Enter()
	if e.Muls() == 0 {
		t.Error("a text of 8 words is had for nothing")
	}
	is(t, "Muls of the other", other.Muls(), 0)
	is(t, "Now", e.Now(), 0)
	is(t, "Now of the other", other.Now(), 1)
}

// The products of the engines below can be asked through this one.
func TestPromoted(t *testing.T) {
	e := radix.New(table.Least(4))
	s := source(31)
	a, b := s.row(9), s.row(9)
	ab, aa := product(a, b), product(a, a)
	multiplier := e.Engine.Engine.Engine.Engine.Engine // root's, div's, recip's, divs's, mul's
	hand := multiplier.Engine.Engine.Engine            // toom's, kara's, school's
	for _, c := range []struct {
		name  string
		ask   func() (api.Nat, bool)
		want  api.Nat
		spent int
	}{
		{"Mul", func() (api.Nat, bool) { return e.Mul(a, b), true }, ab, table.Cost(e.Table, 9, 9)},
		{"Sqr", func() (api.Nat, bool) { return e.Sqr(a), true }, aa, table.Square(e.Table, 9)},
		{"Product", func() (api.Nat, bool) { return e.Product(a, b), true }, ab, table.Cost(e.Table, 9, 9)},
		{"Product of three", func() (api.Nat, bool) { return e.Product(api.Nat{2}, api.Nat{3}, api.Nat{7}), true }, api.Nat{42}, 2},
		{"Product of none", func() (api.Nat, bool) { return e.Product(), true }, api.Nat{1}, 0},
		{"mul's By", func() (api.Nat, bool) { return multiplier.By(table.School, a, b) }, ab, 81},
		{"Toom", func() (api.Nat, bool) { return e.Toom(a, b, hand.Mul) }, ab, 9 + 3*16 + 9},
		{"ToomSqr", func() (api.Nat, bool) { return e.ToomSqr(a, hand.Sqr) }, aa, 6 + 3*10 + 6},
		{"Kara", func() (api.Nat, bool) { return e.Kara(a, b, hand.Mul) }, ab, 25 + 16 + 36},
		{"KaraSqr", func() (api.Nat, bool) { return e.KaraSqr(a, hand.Sqr) }, aa, 15 + 10 + 21},
		{"Both", func() (api.Nat, bool) { return e.Both(a, b), true }, ab, table.Cost(e.Table, 9, 9)},
		{"Mul by hand", func() (api.Nat, bool) { return hand.Mul(a, b), true }, ab, 81},
		{"Power", func() (api.Nat, bool) { return e.Power(api.Nat{3}, 5), true }, api.Nat{243}, 5},
	} {
		e.Reset()
		got, ok := c.ask()
		if !ok {
			t.Fatalf("%s: false", c.name)
		}
		words(t, c.name, got, c.want)
		is(t, c.name+": Muls", e.Muls(), c.spent)
		is(t, c.name+": Now", e.Now(), 0)
	}
}

// So can their divisions: By is recip's.
func TestPromotedDivision(t *testing.T) {
	e := radix.New(table.Least(4))
	for _, c := range []struct {
		name string
		ask  func(a, b api.Nat) (q, r api.Nat, err api.Errno)
	}{
		{"DivMod", e.DivMod},
		{"Halves", e.Halves},
		{"Long", e.Long},
		{"By", func(a, b api.Nat) (q, r api.Nat, err api.Errno) {
			v, _ := e.Recip(b, 64*9)
			return e.By(a, b, v, 64*9)
		}},
	} {
		q, r, err := c.ask(api.Nat{9, 120, 230, 300}, api.Nat{1, 2, 3})
		fine(t, c.name, err)
		words(t, c.name, q, api.Nat{9, 100})
		words(t, c.name, r, api.Nat{0, 2, 3})
		q, r, err = c.ask(api.Nat{5}, api.Nat{0})
		refused(t, c.name, err, api.ErrZero, q, r)
	}
	v, err := e.Recip(api.Nat{3}, 4)
	fine(t, "Recip", err)
	words(t, "Recip", v, api.Nat{5})
	v, err = e.Exact(api.Nat{42}, api.Nat{6})
	fine(t, "Exact", err)
	words(t, "Exact", v, api.Nat{7})
	v, err = e.Exact(api.Nat{41}, api.Nat{6})
	refused(t, "Exact", err, api.ErrExact, v)
	for _, f := range []func(a api.Nat, l ...api.Nat) ([]api.Nat, api.Errno){e.Mod, e.LongMod} {
		list, err := f(api.Nat{100}, api.Nat{7}, api.Nat{200}, api.Nat{10})
		fine(t, "remainders", err)
		is(t, "how many", len(list), 3)
		for i, asked := range []api.Nat{{2}, {100}, nil} {
			words(t, "remainders", list[i], asked)
		}
	}
	for last, asked := range map[uint64]bool{12: true, 13: false} {
		all, err := e.Divides(api.Nat{3}, api.Nat{9}, nil, api.Nat{last})
		fine(t, "Divides", err)
		if all != asked {
			t.Errorf("Divides of %d: %v", last, all)
		}
	}
}

// So can their roots.
func TestPromotedRoots(t *testing.T) {
	byEach(t, func(t *testing.T, x api.Table) {
		e := radix.New(x)
		src := source(30)
		for _, n := range []int{1, 2, 5, 13, 40} {
			a := src.row(n)
			p := plus(product(a, a), 1)
			s, r := e.Sqrt(p)
			words(t, "Sqrt", s, a)
			words(t, "Sqrt: what is left", r, api.Nat{1})
			s, ok := e.Square(p)
			if ok || len(s) != 0 {
				t.Fatalf("Square of what is none: %v, %x", ok, s)
			}
			s, ok = e.Square(product(a, a))
			if !ok {
				t.Fatal("Square: false of a square")
			}
			words(t, "Square", s, a)
			s, err := e.Root(plus(raised(a, 3), 1), 3)
			fine(t, "Root", err)
			words(t, "Root", s, a)
			s, err = e.Root(p, 65)
			refused(t, "Root", err, api.ErrArg, s)
		}
	})
}

// What this engine spends is to be seen through the engines below, and what they spend through this one.
func TestOneMeter(t *testing.T) {
	e := radix.New(table.Least(4, 12, 64, 9))
	e.Text(same(3, 8), 10)
	spent := e.Muls()
	if spent == 0 {
		t.Error("a text of 8 words is had for nothing")
	}
	is(t, "Muls of root", e.Engine.Muls(), spent)
	is(t, "Muls of div", e.Engine.Engine.Muls(), spent)
	is(t, "Muls of the tune", e.Tune.Muls(), spent)
	e.Engine.Mul(same(9, 4), same(5, 4))
	is(t, "Muls", e.Muls(), spent+17)
	is(t, "Spend", e.Spend(5), spent+22)
	is(t, "Route", e.Route(9, 9), table.Kara)
	is(t, "Enter", e.Enter(), 1)
	is(t, "Enter", e.Enter(), 2)
	is(t, "Now", e.Now(), 2)
	is(t, "Leave", e.Leave(), 1)
	is(t, "Deep", e.Deep(), 2)
	e.Reset()
	is(t, "Muls", e.Muls(), 0)
	is(t, "Now", e.Now(), 0)
	is(t, "Deep", e.Deep(), 0)
}

// Behind each call the level is as it was, whatever was entered before.
func TestLevelIsLeft(t *testing.T) {
	byEach(t, func(t *testing.T, x api.Table) {
		e := radix.New(x)
		src := source(32)
		for n := range 80 {
			level := e.Enter()
			a := src.row(n)
			for _, base := range []int{1, 2, 10, 36, 37} {
				s, _ := e.Text(a, base)
				is(t, "Text: Now", e.Now(), level)
				for _, more := range []string{"", "-", "A"} {
					e.Parse(s+more, base)
					is(t, "Parse: Now", e.Now(), level)
				}
			}
			for _, base := range []uint64{0, 1, 2, 10, 1 << 32, most} {
				l, _ := e.Digits(a, base)
				is(t, "Digits: Now", e.Now(), level)
				for _, more := range []uint64{0, 1, base} {
					e.Value(base, under(l, more)...)
					is(t, "Value: Now", e.Now(), level)
				}
			}
		}
	})
}

// Zero words on top are nothing: they change neither the answer nor what is spent; so are noughts on top of digits, and in a text.
func TestZeroWordsOnTop(t *testing.T) {
	byEach(t, func(t *testing.T, x api.Table) {
		src := source(33)
		for _, n := range []int{0, 1, 2, 3, 7, 8, 20, 33, 64, 130} {
			a := src.row(n)
			plain := radix.New(x)
			s, _ := plain.Text(a, 10)
			plain.Parse(s, 10)
			l, _ := plain.Digits(a, 1<<40)
			plain.Value(1<<40, l...)
			for _, more := range []int{1, 2, 5, 90, 5000} {
				e := radix.New(x)
				b := topped(a, more)
				other, err := e.Text(b, 10)
				fine(t, "Text", err)
				if other != s {
					t.Fatalf("Text: %s; asked is %s", other, s)
				}
				checkParse(t, e, strings.Repeat("0", more)+s, 10, a)
				row, err := e.Digits(b, 1<<40)
				fine(t, "Digits", err)
				words(t, "Digits", row, l)
				checkValue(t, e, 1<<40, topped(l, more), a)
				is(t, "Muls", e.Muls(), plain.Muls())
				is(t, "Deep", e.Deep(), plain.Deep())
			}
		}
	})
}

// R4: memory

// walled is a row with a wall behind its length, and the memory of both.
func walled(a api.Nat) (row, memory api.Nat) {
	memory = slices.Concat(a, same(0x5a5a, 8))
	return memory[:len(a)], memory
}

// some are numbers of all kinds, powers of bases among them.
func some() []api.Nat {
	src := source(34)
	list := []api.Nat{nil, {}, {0}, {1}, {2}, {9}, {10}, {most}, {0, 1}, {0, 0}, same(most, 4), same(most, 9), raised(api.Nat{10}, 200), minus(raised(api.Nat{36}, 300), 1)}
	for n := 1; n < 60; n += 1 + n/3 {
		a := src.row(n)
		list = append(list, a, topped(a, 1+n%3), raised(a[:1], 20))
	}
	return list
}

// What is handed in is left, and what lies behind its length, too; that is not read, either.
func TestHandedInIsLeft(t *testing.T) {
	byEach(t, func(t *testing.T, x api.Table) {
		e := radix.New(x)
		for _, asked := range some() {
			a, memory := walled(asked)
			kept := slices.Clone(memory)
			for _, base := range []int{1, 2, 10, 37} {
				if base == 1 || base == 37 {
					e.Text(a, base)
					continue
				}
				checkText(t, e, a, base)
			}
			for _, base := range []uint64{0, 10, 1 << 32, most} {
				if base == 0 {
					e.Digits(a, base)
					continue
				}
				checkDigits(t, e, a, base)
				l, digitsMemory := walled(topped(digits(a, base), 2))
				digitsKept := slices.Clone(digitsMemory)
				checkValue(t, e, base, l, limb.Norm(a))
				e.Value(base-1, l...)
				e.Value(1, l...)
				words(t, "what was handed in to Value", digitsMemory, digitsKept)
			}
			words(t, "what was handed in", memory, kept)
		}
	})
}

// overwrite fills a row and its spare room.
func overwrite(a api.Nat, w uint64) {
	a = a[:cap(a)]
	for i := range a {
		a[i] = w
	}
}

// apart says that no two of the rows share memory, spare room too: what is written into one is seen in no other.
func apart(t *testing.T, told string, list ...api.Nat) {
	t.Helper()
	for i, a := range list {
		overwrite(a, uint64(1000+i))
	}
	for i, a := range list {
		for _, w := range a[:cap(a)] {
			if w != uint64(1000+i) {
				t.Fatalf("%s: two rows share memory", told)
			}
		}
	}
}

// Each row handed out is new memory: it shares none with another, nor with what was handed in.
func TestHandedOutIsNew(t *testing.T) {
	byEach(t, func(t *testing.T, x api.Table) {
		e := radix.New(x)
		for _, asked := range some() {
			a, memory := walled(asked)
			list := []api.Nat{memory}
			for range 2 {
				n, _ := e.Parse(text(a, 10), 10)
				list = append(list, n)
				for _, base := range []uint64{2, 10, 1 << 32, half, most} {
					digits, digitsMemory := walled(digits(a, base))
					l, _ := e.Digits(a, base)
					n, _ := e.Value(base, digits...)
					list = append(list, digitsMemory, l, n)
				}
			}
			apart(t, fmt.Sprintf("answers of %d words", len(a)), list...)
		}
	})
}

// What was handed in is not kept: it may be overwritten behind a call, and answers are as they were.
func TestNothingIsKept(t *testing.T) {
	byEach(t, func(t *testing.T, x api.Table) {
		e := radix.New(x)
		for _, a := range some() {
			a = slices.Clone(a)
			asked, number := text(a, 10), limb.Norm(a)
			for _, base := range []uint64{2, 10, 1 << 32, half, most} {
				b := slices.Clone(a)
				kept := digits(b, base)
				l, _ := e.Digits(b, base)
				overwrite(b, 99)
				words(t, "Digits", l, kept)
				n, _ := e.Value(base, l...)
				overwrite(l, 99)
				words(t, "Value", n, number)
				overwrite(n, 99)
			}
			s, _ := e.Text(a, 10)
			overwrite(a, 99)
			if s != asked {
				t.Fatalf("Text: %s; asked is %s", s, asked)
			}
			checkParse(t, e, s, 10, number)
		}
	})
}

// R5: what was asked before, errors too, changes no answer, nor what is spent for it.
func TestOrder(t *testing.T) {
	byEach(t, func(t *testing.T, x api.Table) {
		src := source(35)
		a := src.row(100)
		fresh, used := radix.New(x), radix.New(x)
		for n := range 30 {
			used.Text(src.row(3*n), 2+n)
			used.Text(a, -n)
			used.Digits(src.row(2*n), 1<<60)
			used.Digits(a, 1)
			used.Parse(text(src.row(2*n), 10), 10)
			used.Parse("1e", 10)
			used.Value(1<<60, src.row(n)...)
			used.Value(10, 10)
		}
		used.Enter()
		before := used.Muls()
		for _, e := range []*radix.Engine{fresh, used} {
			checkText(t, e, a, 10)
			checkText(t, e, a, 36)
			checkDigits(t, e, a, 10)
			checkDigits(t, e, a, most)
		}
		is(t, "Muls", used.Muls()-before, fresh.Muls())
		is(t, "Now", used.Now(), 1)
	})
}
