package num_test

import (
	"fmt"
	"math/big"
	"slices"
	"testing"

	"ziggurat/api"
	"ziggurat/num"
	"ziggurat/radix"
	"ziggurat/table"
)

// P18.1: New, and what is promoted

func TestNew(t *testing.T) {
	for _, x := range tables() {
		e := num.New(x)
		clamped := table.Clamp(x)
		if e.Table != clamped || e.Engine.Table != radix.New(x).Table {
			t.Errorf("%v: %v", x, e.Table)
		}
		entries := []int{e.Base, e.Table.Toom, e.Ntt, e.Div, e.Table.Recip, e.Lehmer, e.Radix, e.Poly, e.Kron, e.Series, e.Tree}
		asked := []int{clamped.Base, clamped.Toom, clamped.Ntt, clamped.Div, clamped.Recip, clamped.Lehmer, clamped.Radix, clamped.Poly, clamped.Kron, clamped.Series, clamped.Tree}
		if !slices.Equal(entries, asked) {
			t.Errorf("%v: %v", x, entries)
		}
		is(t, "Muls", e.Muls(), 0)
		is(t, "Now", e.Now(), 0)
		is(t, "Deep", e.Deep(), 0)
		if other := num.New(x); other == e || other.Engine == e.Engine || other.Tune == e.Tune {
			t.Error("two engines have one meter")
		}
	}
}

// Two engines spend each for itself.
func TestTwoMeters(t *testing.T) {
	e, other := num.New(table.Least(4, 12, 64, 9)), num.New(api.Table{})
	e.Times(down(same(3, 8)), up(same(5, 8)))
	other.Enter()
	is(t, "Muls", e.Muls(), table.Cost(e.Table, 8, 8))
	is(t, "Muls of the other", other.Muls(), 0)
	is(t, "Now", e.Now(), 0)
	is(t, "Now of the other", other.Now(), 1)
}

// The products of the engines below can be asked through this one.
func TestPromoted(t *testing.T) {
	e := num.New(table.Least(4))
	s := source(31)
	a, b := s.row(9), s.row(9)
	ab, aa := productOf(a, b), productOf(a, a)
	multiplier := e.Engine.Engine.Engine.Engine.Engine.Engine // radix's, root's, div's, recip's, divs's, mul's
	hand := multiplier.Engine.Engine.Engine                   // toom's, kara's, school's
	for _, c := range []struct {
		name  string
		ask   func() (api.Nat, bool)
		want  api.Nat
		spent int
	}{
		{"Mul", func() (api.Nat, bool) { return e.Mul(a, b), true }, ab, table.Cost(e.Table, 9, 9)},
		{"Sqr", func() (api.Nat, bool) { return e.Sqr(a), true }, aa, table.Square(e.Table, 9)},
		{"Product", func() (api.Nat, bool) { return e.Product(a, b), true }, ab, table.Cost(e.Table, 9, 9)},
		{"Product of three", func() (api.Nat, bool) { return e.Product(api.Nat{2}, api.Nat{3}, api.Nat{7}), true }, api.Nat{42}, 2},
		{"Product of none", func() (api.Nat, bool) { return e.Product(), true }, api.Nat{1}, 0},
		{"mul's By", func() (api.Nat, bool) { return multiplier.By(table.School, a, b) }, ab, 81},
		{"Toom", func() (api.Nat, bool) { return e.Toom(a, b, hand.Mul) }, ab, 9 + 3*16 + 9},
		{"ToomSqr", func() (api.Nat, bool) { return e.ToomSqr(a, hand.Sqr) }, aa, 6 + 3*10 + 6},
		{"Kara", func() (api.Nat, bool) { return e.Kara(a, b, hand.Mul) }, ab, 25 + 16 + 36},
		{"KaraSqr", func() (api.Nat, bool) { return e.KaraSqr(a, hand.Sqr) }, aa, 15 + 10 + 21},
		{"Both", func() (api.Nat, bool) { return e.Both(a, b), true }, ab, table.Cost(e.Table, 9, 9)},
		{"Mul by hand", func() (api.Nat, bool) { return hand.Mul(a, b), true }, ab, 81},
		{"Power", func() (api.Nat, bool) { return e.Power(api.Nat{3}, 5), true }, api.Nat{243}, 5},
	} {
		e.Reset()
		got, ok := c.ask()
		if !ok {
			t.Fatalf("%s: false", c.name)
		}
		words(t, c.name, got, c.want)
		is(t, c.name+": Muls", e.Muls(), c.spent)
		is(t, c.name+": Now", e.Now(), 0)
	}
}

// productOf is a b.
func productOf(a, b api.Nat) api.Nat {
	return wordsOf(new(big.Int).Mul(great(up(a)), great(up(b))))
}

// So can their divisions: By is recip's.
func TestPromotedDivision(t *testing.T) {
	e := num.New(table.Least(4))
	for _, c := range []struct {
		name string
		ask  func(a, b api.Nat) (q, r api.Nat, err api.Errno)
	}{
		{"DivMod", e.DivMod},
		{"Halves", e.Halves},
		{"Long", e.Long},
		{"By", func(a, b api.Nat) (q, r api.Nat, err api.Errno) {
			v, _ := e.Recip(b, 64*9)
			return e.By(a, b, v, 64*9)
		}},
	} {
		q, r, err := c.ask(api.Nat{9, 120, 230, 300}, api.Nat{1, 2, 3})
		fine(t, c.name, err)
		words(t, c.name, q, api.Nat{9, 100})
		words(t, c.name, r, api.Nat{0, 2, 3})
		q, r, err = c.ask(api.Nat{5}, api.Nat{0})
		refused(t, c.name, err, api.ErrZero, up(q), up(r))
	}
	v, err := e.Recip(api.Nat{3}, 4)
	fine(t, "Recip", err)
	words(t, "Recip", v, api.Nat{5})
	v, err = e.Exact(api.Nat{42}, api.Nat{6})
	fine(t, "Exact", err)
	words(t, "Exact", v, api.Nat{7})
	v, err = e.Exact(api.Nat{41}, api.Nat{6})
	refused(t, "Exact", err, api.ErrExact, up(v))
	for _, f := range []func(a api.Nat, l ...api.Nat) ([]api.Nat, api.Errno){e.Mod, e.LongMod} {
		list, err := f(api.Nat{100}, api.Nat{7}, api.Nat{200}, api.Nat{10})
		fine(t, "remainders", err)
		is(t, "how many", len(list), 3)
		for i, asked := range []api.Nat{{2}, {100}, nil} {
			words(t, "remainders", list[i], asked)
		}
	}
	for last, asked := range map[uint64]bool{12: true, 13: false} {
		all, err := e.Divides(api.Nat{3}, api.Nat{9}, nil, api.Nat{last})
		fine(t, "Divides", err)
		if all != asked {
			t.Errorf("Divides of %d: %v", last, all)
		}
	}
}

// So can their roots and their digits.
func TestPromotedRootsAndDigits(t *testing.T) {
	byEach(t, func(t *testing.T, x api.Table) {
		e := num.New(x)
		src := source(30)
		for _, n := range []int{1, 2, 5, 13, 40} {
			a := src.row(n)
			p := num.Add(up(productOf(a, a)), num.Of(1)).Nat
			s, r := e.Sqrt(p)
			words(t, "Sqrt", s, a)
			words(t, "Sqrt: what is left", r, api.Nat{1})
			s, ok := e.Square(p)
			if ok || len(s) != 0 {
				t.Fatalf("Square of what is none: %v, %x", ok, s)
			}
			s, err := e.Root(p, 65)
			refused(t, "Root", err, api.ErrArg, up(s))
			s, err = e.Root(p, 2)
			fine(t, "Root", err)
			words(t, "Root", s, a)
			text, err := e.Text(a, 10)
			fine(t, "Text", err)
			if asked := great(up(a)).Text(10); text != asked {
				t.Fatalf("Text: %s; asked is %s", text, asked)
			}
			s, err = e.Parse(text, 10)
			fine(t, "Parse", err)
			words(t, "Parse", s, a)
			s, err = e.Parse("-"+text, 10)
			refused(t, "Parse", err, api.ErrText, up(s))
			l, err := e.Digits(a, 10)
			fine(t, "Digits", err)
			is(t, "how many digits", len(l), len(text))
			s, err = e.Value(10, l...)
			fine(t, "Value", err)
			words(t, "Value", s, a)
		}
	})
}

// What this engine spends is to be seen through the engines below, and what they spend through this one.
func TestOneMeter(t *testing.T) {
	e := num.New(table.Least(4, 12, 64, 9))
	e.Times(up(same(3, 8)), down(same(5, 8)))
	e.Trunc(up(same(3, 8)), down(same(5, 4)))
	spent := e.Muls()
	is(t, "Muls", spent, table.Cost(e.Table, 8, 8)+5*5)
	is(t, "Muls of radix", e.Engine.Muls(), spent)
	is(t, "Muls of root", e.Engine.Engine.Muls(), spent)
	is(t, "Muls of the tune", e.Tune.Muls(), spent)
	e.Engine.Mul(same(9, 4), same(5, 4))
	is(t, "Muls", e.Muls(), spent+17)
	is(t, "Spend", e.Spend(5), spent+22)
	is(t, "Route", e.Route(9, 9), table.Kara)
	e.Reset()
	is(t, "Muls", e.Muls(), 0)
	is(t, "Enter", e.Enter(), 1)
	is(t, "Enter", e.Enter(), 2)
	is(t, "Now", e.Now(), 2)
	is(t, "Leave", e.Leave(), 1)
	is(t, "Deep", e.Deep(), 2)
	e.Reset()
	is(t, "Muls", e.Muls(), 0)
	is(t, "Now", e.Now(), 0)
	is(t, "Deep", e.Deep(), 0)
}

// Behind each call the level is as it was, whatever was entered before.
func TestLevelIsLeft(t *testing.T) {
	byEach(t, func(t *testing.T, x api.Table) {
		e := num.New(x)
		src := source(32)
		for n := range 40 {
			e.Enter()
			for _, m := range []int{0, 1, n / 2, n, n + 1} {
				for _, pair := range signs(src.row(n), src.row(m)) {
					checkTimes(t, e, pair[0], pair[1])
					if m > 0 {
						checkDivisions(t, e, pair[0], pair[1])
					}
				}
			}
			level := e.Now()
			is(t, "Now", level, n+1)
			for _, d := range divisions(e) {
				d.ask(down(src.row(n)), api.Int{})
				is(t, d.name+": Now", e.Now(), level)
			}
			e.Even(down(src.row(n)), api.Int{})
			is(t, "Even: Now", e.Now(), level)
		}
	})
}

// Zero words on top, and signs, are nothing to what is spent.
func TestSpent(t *testing.T) {
	byEach(t, func(t *testing.T, x api.Table) {
		src := source(33)
		for _, n := range []int{1, 2, 3, 8, 20, 64, 130} {
			for _, m := range []int{1, 2, 7, 16, 40} {
				a, b := src.row(n), src.row(m)
				plain := num.New(x)
				askAll(plain, up(a), up(b))
				for _, pair := range signs(topped(a, 1+m), topped(b, 90)) {
					e := num.New(x)
					askAll(e, pair[0], pair[1])
					is(t, of{"Muls", pair[0], pair[1]}, e.Muls(), plain.Muls())
					is(t, of{"Deep", pair[0], pair[1]}, e.Deep(), plain.Deep())
				}
			}
		}
	})
}

// Divisions go the table's way: they spend what DivMod of the sizes spends, and go as deep.
func TestWayOfDivisions(t *testing.T) {
	byEach(t, func(t *testing.T, x api.Table) {
		src := source(37)
		for _, lengths := range [][2]int{{300, 150}, {200, 10}, {40, 20}, {9, 3}} {
			a, b := src.row(lengths[0]), src.row(lengths[1])
			plain := num.New(x)
			plain.DivMod(a, b)
			for _, pair := range signs(a, b) {
				for i := range 4 {
					e := num.New(x)
					if i == 3 {
						e.Even(pair[0], pair[1])
					} else {
						divisions(e)[i].ask(pair[0], pair[1])
					}
					is(t, of{"Muls", pair[0], pair[1]}, e.Muls(), plain.Muls())
					is(t, of{"Deep", pair[0], pair[1]}, e.Deep(), plain.Deep())
				}
			}
		}
	})
}

// askAll are the answers of all calls, of the package and of the engine.
func askAll(e *num.Engine, a, b api.Int) []api.Int {
	list := []api.Int{num.Norm(a), num.Neg(a), num.Abs(a), num.Add(a, b), num.Sub(a, b), num.Sum(), num.Sum(a), num.Sum(a, b), num.Sum(a, b, a), e.Times(a, b)}
	for _, d := range divisions(e) {
		q, r, _ := d.ask(a, b)
		list = append(list, q, r)
	}
	q, _ := e.Even(a, b)
	p, _ := e.Even(e.Times(a, b), b)
	return append(list, q, p, num.Of(num.Cmp(a, b)))
}

// T2: for every two tables the answers are one.
func TestTables(t *testing.T) {
	src := source(36)
	for _, n := range []int{1, 3, 9, 30, 150} {
		for _, m := range []int{0, 1, 4, 10, 70} {
			for _, pair := range signs(src.row(n), src.row(m)) {
				asked := askAll(num.New(api.Table{}), pair[0], pair[1])
				for _, x := range tables() {
					for i, a := range askAll(num.New(x), pair[0], pair[1]) {
						if a.Neg != asked[i].Neg {
							t.Fatalf("%v: %v; asked is %v", x, a, asked[i])
						}
						words(t, x, a.Nat, asked[i].Nat)
					}
				}
			}
		}
	}
}

// R4: memory

// walled is a number with a wall behind its words' length, and the memory of both.
func walled(a api.Int) (behind api.Int, memory api.Nat) {
	memory = slices.Concat(a.Nat, same(0x5a5a, 8))
	return api.Int{Nat: memory[:len(a.Nat)], Neg: a.Neg}, memory
}

// some are numbers of all kinds, in several forms.
func some() []api.Int {
	src := source(34)
	list := []api.Int{{}, {Neg: true}, {Nat: api.Nat{0}}, {Nat: api.Nat{0, 0}, Neg: true}, {Nat: api.Nat{}, Neg: true}}
	for _, a := range []api.Nat{{1}, {2}, {most}, {0, 1}, same(most, 4), same(most, 9)} {
		list = append(list, up(a), down(a))
	}
	for n := 1; n < 60; n += 1 + n/2 {
		a := src.row(n)
		list = append(list, up(a), down(a), up(topped(a, 1+n%3)), down(topped(a, 1+n%3)))
	}
	return list
}

// What is handed in is left, and what lies behind its length, too; that is not read, either.
func TestHandedInIsLeft(t *testing.T) {
	byEach(t, func(t *testing.T, x api.Table) {
		e := num.New(x)
		for _, x := range some() {
			for _, y := range some() {
				a, memory := walled(x)
				b, other := walled(y)
				kept, otherKept := slices.Clone(memory), slices.Clone(other)
				asked, answers := askAll(e, x, y), askAll(e, a, b)
				for i, answer := range answers {
					whole(t, of{"each call", a, b}, answer, great(asked[i]))
				}
				words(t, of{"what was handed in", a, b}, memory, kept)
				words(t, of{"what was handed in", a, b}, other, otherKept)
			}
		}
	})
}

// So is the list of a Sum, with what lies behind its length.
func TestListIsLeft(t *testing.T) {
	list, asked := some(), total(some())
	wall := api.Int{Nat: api.Nat{77}, Neg: true}
	memory := append(slices.Clone(list), wall, wall, wall)
	whole(t, "Sum", num.Sum(memory[:len(list)]...), asked)
	whole(t, "Sum", num.Sum(memory[:1]...), new(big.Int))
	whole(t, "Sum", num.Sum(memory[:0]...), new(big.Int))
	for i, a := range append(some(), wall, wall, wall) {
		if memory[i].Neg != a.Neg || (memory[i].Nat == nil) != (a.Nat == nil) {
			t.Fatalf("the list's %d. member is %v", i, memory[i])
		}
		words(t, "a member of the list", memory[i].Nat, a.Nat)
	}
}

// overwrite fills a row and its spare room.
func overwrite(a api.Nat, w uint64) {
	a = a[:cap(a)]
	for i := range a {
		a[i] = w
	}
}

// apart says that no two of the rows share memory, spare room too: what is written into one is seen in no other.
func apart(t *testing.T, told any, list ...api.Nat) {
	t.Helper()
	for i, a := range list {
		overwrite(a, uint64(1000+i))
	}
	for i, a := range list {
		for _, w := range a[:cap(a)] {
			if w != uint64(1000+i) {
				t.Fatalf("%v: two rows share memory", told)
			}
		}
	}
}

// Each row handed out is new memory: it shares none with another, nor with what was handed in.
func TestHandedOutIsNew(t *testing.T) {
	byEach(t, func(t *testing.T, x api.Table) {
		e := num.New(x)
		for _, x := range some() {
			for _, y := range some() {
				a, memory := walled(x)
				b, other := walled(y)
				list := []api.Nat{memory, other}
				for range 2 {
					for _, n := range append(askAll(e, a, b), num.Of(5), num.Of(0), num.Of(-5)) {
						list = append(list, n.Nat)
					}
				}
				apart(t, of{"each call", a, b}, list...)
			}
		}
	})
}

// What was handed in is not kept: it may be overwritten behind a call, and answers are as they were.
func TestNothingIsKept(t *testing.T) {
	byEach(t, func(t *testing.T, x api.Table) {
		e := num.New(x)
		for _, x := range some() {
			for _, y := range some() {
				a, _ := walled(x)
				b, _ := walled(y)
				asked, answers := askAll(e, x, y), askAll(e, a, b)
				overwrite(a.Nat, 99)
				overwrite(b.Nat, 99)
				for i, answer := range answers {
					whole(t, of{"each call", x, y}, answer, great(asked[i]))
				}
			}
		}
	})
}

// R5: what was asked before, errors too, changes no answer, nor what is spent for it.
func TestOrder(t *testing.T) {
	byEach(t, func(t *testing.T, x api.Table) {
		src := source(35)
		a, b := down(src.row(100)), up(src.row(45))
		fresh, used := num.New(x), num.New(x)
		for n := range 30 {
			askAll(used, down(src.row(3*n)), up(src.row(n)))
			askAll(used, a, zeros()[n%12])
			askAll(used, b, a)
		}
		used.Enter()
		before := used.Muls()
		asked := askAll(fresh, a, b)
		for i, answer := range askAll(used, a, b) {
			whole(t, fmt.Sprint("answer ", i), answer, great(asked[i]))
		}
		is(t, "Muls", used.Muls()-before, fresh.Muls())
		is(t, "Now", used.Now(), 1)
	})
}
