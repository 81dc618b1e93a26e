package num_test

import (
	"fmt"
	"math/big"
	"slices"
	"testing"

	"ziggurat/api"
	"ziggurat/num"
	"ziggurat/table"
)

// P18.1: Times

func TestSmallTimes(t *testing.T) {
	byEach(t, func(t *testing.T, x api.Table) {
		e := num.New(x)
		for a := -15; a <= 15; a++ {
			for b := -15; b <= 15; b++ {
				whole(t, "Times", e.Times(num.Of(a), num.Of(b)), big.NewInt(int64(a*b)))
			}
		}
		list := someInts()
		for i, a := range list {
			for _, b := range list[i%9:][:60] {
				checkTimes(t, e, num.Of(a), num.Of(b))
			}
		}
	})
}

func TestTimes(t *testing.T) {
	byEach(t, func(t *testing.T, x api.Table) {
		e := num.New(x)
		list := sizes(150)
		for i, a := range list {
			for _, b := range list[i%11 : len(list)-i%5] {
				for _, pair := range signs(a, b)[(i+len(b))%3:][:2] {
					checkTimes(t, e, pair[0], pair[1])
				}
			}
			for _, pair := range signs(a, a) {
				checkTimes(t, e, pair[0], pair[1])
			}
		}
	})
}

// Each number may be handed in with zero words on top, and a 0 with Neg, at each place: also to the divisions.
func TestFormsOfBoth(t *testing.T) {
	byEach(t, func(t *testing.T, x api.Table) {
		e := num.New(x)
		list := []api.Int{{}, up(same(half, 3)), down(same(half, 3)), up(api.Nat{1}), down(api.Nat{1}), down(same(most, 2)), down(same(most, 9)), up(same(half, 18))}
		for _, x := range list {
			for _, y := range list {
				for _, a := range forms(x) {
					for _, b := range forms(y) {
						checkTimes(t, e, a, b)
						if !b.Zero() {
							checkDivisions(t, e, a, b)
						}
					}
				}
			}
		}
	})
}

// P18.2: the divisions

// What the three calls answer, by hand.
func TestExamples(t *testing.T) {
	byEach(t, func(t *testing.T, x api.Table) {
		e := num.New(x)
		for _, row := range []struct{ a, b, trunc, left, floor, above, euclid, rest int }{
			{-7, 2, -3, -1, -4, 1, -4, 1},
			{-7, -2, 3, -1, 3, -1, 4, 1},
			{7, 2, 3, 1, 3, 1, 3, 1},
			{7, -2, -3, 1, -4, -1, -3, 1},
			{6, -3, -2, 0, -2, 0, -2, 0},
			{-6, 3, -2, 0, -2, 0, -2, 0},
			{-6, -3, 2, 0, 2, 0, 2, 0},
			{0, 3, 0, 0, 0, 0, 0, 0},
			{0, -3, 0, 0, 0, 0, 0, 0},
			{-1, 9, 0, -1, -1, 8, -1, 8},
			{1, -9, 0, 1, -1, -8, 0, 1},
			{-1, -9, 0, -1, 0, -1, 1, 8},
			{-9, 9, -1, 0, -1, 0, -1, 0},
			{-9, 10, 0, -9, -1, 1, -1, 1},
			{5, 1, 5, 0, 5, 0, 5, 0},
			{5, -1, -5, 0, -5, 0, -5, 0},
		} {
			asked := [][2]int{{row.trunc, row.left}, {row.floor, row.above}, {row.euclid, row.rest}}
			for i, d := range divisions(e) {
				told := fmt.Sprintf("%s of %d by %d", d.name, row.a, row.b)
				q, r, err := d.ask(num.Of(row.a), num.Of(row.b))
				fine(t, told, err)
				whole(t, told, q, big.NewInt(int64(asked[i][0])))
				whole(t, told+": the remainder", r, big.NewInt(int64(asked[i][1])))
			}
			checkEven(t, e, num.Of(row.a), num.Of(row.b))
		}
	})
}

func TestSmallDivisions(t *testing.T) {
	byEach(t, func(t *testing.T, x api.Table) {
		e := num.New(x)
		for a := -30; a <= 30; a++ {
			for b := -12; b <= 12; b++ {
				if b != 0 {
					checkDivisions(t, e, num.Of(a), num.Of(b))
				}
			}
		}
		list := someInts()
		for i, a := range list {
			for _, b := range list[i%9:][:60] {
				if b != 0 {
					checkDivisions(t, e, num.Of(a), num.Of(b))
				}
			}
		}
	})
}

func TestDivisions(t *testing.T) {
	byEach(t, func(t *testing.T, x api.Table) {
		e := num.New(x)
		list := sizes(80)
		for i, a := range list {
			for j, b := range list[i%5 : len(list)-i%3] {
				if len(b) == 0 {
					continue
				}
				for _, pair := range signs(a, b)[(i+j)%3:][:2] {
					checkDivisions(t, e, pair[0], pair[1])
				}
			}
		}
	})
}

// near are a product of b, and the numbers next to it and next to b below and above it, each with what b leaves of it.
func near(a, b api.Nat) []*big.Int {
	x, y, one := great(up(a)), great(up(b)), big.NewInt(1)
	x.Mul(x, y)
	list := []*big.Int{x}
	for _, step := range []*big.Int{one, new(big.Int).Sub(y, one), y, new(big.Int).Add(y, one)} {
		list = append(list, new(big.Int).Add(x, step), new(big.Int).Sub(x, step))
	}
	return list
}

// Where b divides a, and where it is off by 1, in each pair of signs: the remainder is 0, 1, or the greatest.
func TestNearProducts(t *testing.T) {
	byEach(t, func(t *testing.T, x api.Table) {
		e := num.New(x)
		s := source(43)
		for _, n := range []int{1, 2, 3, 9, 40} {
			for _, m := range []int{0, 1, 2, 9, 70} {
				for _, b := range []api.Nat{s.row(n), same(most, n), slices.Concat(same(0, n-1), api.Nat{1})} {
					for _, a := range near(s.row(m), b) {
						for _, pair := range signs(wordsOf(a), b) {
							if a.Sign() < 0 {
								pair[0].Neg = !pair[0].Neg
							}
							checkDivisions(t, e, pair[0], pair[1])
						}
					}
				}
			}
		}
	})
}

// Where a's size is below b's, is b's, or is next to it, Euclid and Floor have a quotient of 0, 1 or -1, and most of b is left.
func TestOfOneSize(t *testing.T) {
	byEach(t, func(t *testing.T, x api.Table) {
		e := num.New(x)
		for _, b := range sizes(300) {
			for step := int64(-2); step <= 2; step++ {
				a := new(big.Int).Add(great(up(b)), big.NewInt(step))
				if len(b) == 0 || a.Sign() < 0 {
					continue
				}
				for _, pair := range signs(wordsOf(a), b) {
					checkDivisions(t, e, pair[0], pair[1])
				}
			}
			if len(b) > 0 {
				for _, zero := range zeros()[:8] {
					checkDivisions(t, e, zero, up(b))
					checkDivisions(t, e, zero, down(b))
				}
			}
		}
	})
}

// A greater number by one of some hundred words, and by one of a word.
func TestGreatDivisions(t *testing.T) {
	byEach(t, func(t *testing.T, x api.Table) {
		e := num.New(x)
		s := source(44)
		for _, lengths := range [][2]int{{700, 300}, {500, 1}, {900, 450}, {400, 399}, {300, 301}} {
			a, b := s.row(lengths[0]), s.row(lengths[1])
			for _, pair := range signs(a, b) {
				checkDivisions(t, e, pair[0], pair[1])
				checkTimes(t, e, pair[0], pair[1])
				checkEven(t, e, intOf(new(big.Int).Mul(great(pair[0]), great(pair[1]))), pair[1])
			}
		}
	})
}

// By 0 there is no answer, whatever is divided: ErrZero, of a 0 too, ahead of ErrExact.
func TestByZero(t *testing.T) {
	byEach(t, func(t *testing.T, x api.Table) {
		e := num.New(x)
		list := append(numbers(40), zeros()[:12]...)
		list = append(list, down(topped(same(3, 4), 2)))
		for _, a := range list {
			for _, zero := range zeros() {
				for _, d := range divisions(e) {
					q, r, err := d.ask(a, zero)
					refused(t, of{d.name, a, zero}, err, api.ErrZero, q, r)
				}
				q, err := e.Even(a, zero)
				refused(t, of{"Even", a, zero}, err, api.ErrZero, q)
			}
		}
		is(t, "Now", e.Now(), 0)
	})
}

func TestNotEven(t *testing.T) {
	e := num.New(table.Least(4))
	for _, pair := range [][2]int{{7, 2}, {-7, 2}, {7, -2}, {-7, -2}, {1, 2}, {-1, -9}, {5, 10}} {
		q, err := e.Even(num.Of(pair[0]), num.Of(pair[1]))
		refused(t, fmt.Sprint(pair), err, api.ErrExact, q)
	}
	for _, pair := range [][3]int{{6, 2, 3}, {-6, 2, -3}, {6, -2, -3}, {-6, -2, 3}, {0, 5, 0}, {0, -5, 0}, {-5, 5, -1}, {5, -1, -5}} {
		q, err := e.Even(num.Of(pair[0]), num.Of(pair[1]))
		fine(t, fmt.Sprint(pair), err)
		whole(t, fmt.Sprint(pair), q, big.NewInt(int64(pair[2])))
	}
}

// One row may stand at both places.
func TestOneRowDivided(t *testing.T) {
	byEach(t, func(t *testing.T, x api.Table) {
		e := num.New(x)
		for _, a := range numbers(60) {
			for _, b := range []api.Int{a, {Nat: a.Nat, Neg: !a.Neg}} {
				checkTimes(t, e, a, b)
				if !a.Zero() {
					checkDivisions(t, e, a, b)
				}
			}
		}
	})
}
