package radix_test

import (
	"fmt"
	"slices"
	"testing"

	"ziggurat/api"
	"ziggurat/radix"
)

// P17.2: Digits and Value

// Digits that are told by numbers, with and without zero words on top.
func TestDigitsByHand(t *testing.T) {
	byEach(t, func(t *testing.T, x api.Table) {
		e := radix.New(x)
		for _, c := range []struct {
			a    api.Nat
			base uint64
			l    []uint64
		}{
			{nil, 2, nil},
			{nil, most, nil},
			{api.Nat{1}, 2, []uint64{1}},
			{api.Nat{1}, most, []uint64{1}},
			{api.Nat{6}, 2, []uint64{0, 1, 1}},
			{api.Nat{123}, 10, []uint64{3, 2, 1}},
			{api.Nat{258}, 16, []uint64{2, 0, 1}},
			{api.Nat{258}, 256, []uint64{2, 1}},
			{api.Nat{1295}, 36, []uint64{35, 35}},
			{api.Nat{1 << 63}, 1 << 32, []uint64{0, 1 << 31}},
			{api.Nat{most}, 1 << 32, []uint64{1<<32 - 1, 1<<32 - 1}},
			{api.Nat{most}, 1 << 63, []uint64{half - 1, 1}},
			{api.Nat{most}, most, []uint64{0, 1}},
			{api.Nat{most - 1}, most, []uint64{most - 1}},
			{api.Nat{most}, most - 1, []uint64{1, 1}},
			{api.Nat{0, 1}, most, []uint64{1, 1}},
			{api.Nat{0, 1}, 1 << 63, []uint64{0, 2}},
			{api.Nat{0, 1}, 1 << 32, []uint64{0, 0, 1}},
			{api.Nat{1, 2}, 1 << 32, []uint64{1, 0, 2}},
			{api.Nat{0, 0, 1}, most, []uint64{1, 2, 1}},
			{same(most, 2), most, []uint64{0, 2, 1}},
			{same(most, 2), 1 << 63, []uint64{half - 1, half - 1, 3}},
			{above(api.Nat{1}, 40), 2, slices.Concat(same(0, 2560), api.Nat{1})},
			{above(api.Nat{1}, 40), 1 << 32, slices.Concat(same(0, 80), api.Nat{1})},
			{raised(api.Nat{10}, 500), 10, slices.Concat(same(0, 500), api.Nat{1})},
			{minus(raised(api.Nat{1 << 63}, 50), 1), 1 << 63, same(half-1, 50)},
			{minus(raised(api.Nat{most}, 50), 1), most, same(most-1, 50)},
			{raised(api.Nat{most}, 50), most, slices.Concat(same(0, 50), api.Nat{1})},
		} {
			for more := range 3 {
				told := fmt.Sprintf("Digits of %v to the base %d", c.a, c.base)
				l, err := e.Digits(topped(c.a, more), c.base)
				fine(t, told, err)
				words(t, told, l, c.l)
				checkValue(t, e, c.base, topped(c.l, more), c.a)
			}
		}
	})
}

// 0 has no digits, however it is written; no digits, and noughts alone, are 0, and nothing is spent for it.
func TestDigitsOfZero(t *testing.T) {
	byEach(t, func(t *testing.T, x api.Table) {
		e := radix.New(x)
		for _, base := range bases() {
			for _, zero := range zeros() {
				l, err := e.Digits(zero, base)
				fine(t, "Digits", err)
				words(t, "Digits", l, nil)
				checkValue(t, e, base, zero, nil)
			}
			a, err := e.Value(base)
			fine(t, "Value", err)
			words(t, "Value of no digit", a, nil)
		}
		is(t, "Muls", e.Muls(), 0)
		is(t, "Deep", e.Deep(), 0)
	})
}

// Each base, at its powers and next to them.
func TestDigitsAtPowers(t *testing.T) {
	byEach(t, func(t *testing.T, x api.Table) {
		e := radix.New(x)
		for _, base := range bases() {
			for i, a := range atPowers(base)[:3*25] {
				checkDigits(t, e, topped(a, i%3), base)
			}
		}
	})
}

// Rows of all kinds, at lengths from one word to some dozens.
func TestDigitsAllKinds(t *testing.T) {
	byEach(t, func(t *testing.T, x api.Table) {
		e := radix.New(x)
		for _, n := range []int{1, 2, 3, 4, 5, 6, 7, 8, 9, 12, 15, 16, 17, 31, 33, 41} {
			list := rows(n)
			for i, base := range bases() {
				checkDigits(t, e, list[(n+i)%len(list)], base)
				checkDigits(t, e, topped(list[(n+2*i+1)%len(list)], 1+i%4), base)
			}
		}
	})
}

// All lengths to a hundred and more, so that rows are cut at each place there is.
func TestDigitsAllLengths(t *testing.T) {
	byEach(t, func(t *testing.T, x api.Table) {
		e := radix.New(x)
		src := source(51)
		list := bases()
		for n := range 130 {
			checkDigits(t, e, topped(src.row(n), n%2), list[n%len(list)])
			checkDigits(t, e, src.row(n), 1<<32+uint64(n)*(half>>7))
			checkDigits(t, e, src.row(n), src.next()|2)
		}
	})
}

// Some hundreds of words.
func TestDigitsLong(t *testing.T) {
	byEach(t, func(t *testing.T, x api.Table) {
		e := radix.New(x)
		src := source(52)
		for i, n := range []int{199, 256, 400} {
			for _, base := range []uint64{2, 3, 10, 36, 1 << 32, 1<<32 + 1, half, most - 1, most} {
				checkDigits(t, e, topped(src.row(n), i%2), base)
			}
			checkDigits(t, e, same(most, n), most)
			checkDigits(t, e, above(api.Nat{1}, n-1), 1<<32+15)
		}
	})
}

// The greatest numbers: the digits are below the base, none is a nought on top, and their number is the one that was handed in.
func TestDigitsOfMaxWords(t *testing.T) {
	byFew(t, func(t *testing.T, x api.Table) {
		e := radix.New(x)
		src := source(53)
		a := src.row(api.MaxWords)
		for _, base := range []uint64{1 << 48, most} {
			l, err := e.Digits(a, base)
			fine(t, "Digits", err)
			is(t, "the length", len(l), api.Nat(l).Len())
			if slices.Max(l) >= base {
				t.Fatalf("%d is no digit to the base %d", slices.Max(l), base)
			}
			checkValue(t, e, base, l, a)
			words(t, "the number with these digits", value(base, l), a)
		}
	})
}

// Any rows of digits, with noughts on top, below and between: their number has these digits.
func TestValueAnyDigits(t *testing.T) {
	byEach(t, func(t *testing.T, x api.Table) {
		e := radix.New(x)
		src := source(54)
		for i, base := range slices.Concat(bases(), []uint64{5, 6, 1<<16 + 1, 1<<33 - 1, 3 << 62}) {
			for n := 0; n < 700; n += 1 + n/2 {
				l := make([]uint64, n)
				for j := range l {
					l[j] = src.next() % base
				}
				clear(l[n/3 : n/3+n/(i%4+2)])
				asked := value(base, l)
				checkValue(t, e, base, l, asked)
				checkValue(t, e, base, topped(l, 1+i%70), asked)
				checkValue(t, e, base, slices.Concat(same(0, i), l), product(asked, raised(api.Nat{base}, i)))
				back, err := e.Digits(asked, base)
				fine(t, "Digits", err)
				words(t, "the digits again", back, l[:api.Nat(l).Len()])
			}
		}
	})
}

// The longest list that may be handed in, and longer ones.
func TestValueLong(t *testing.T) {
	byFew(t, func(t *testing.T, x api.Table) {
		e := radix.New(x)
		for _, n := range []int{api.MaxTerms - 1, api.MaxTerms, api.MaxTerms + 1, 3 * api.MaxTerms} {
			for _, base := range []uint64{2, 10, 1 << 32, most} {
				checkValue(t, e, base, same(base-1, n), minus(raised(api.Nat{base}, n), 1))
			}
		}
	})
}

// A digit that is base, or above, is none, at whatever place it stands: ErrArg.
func TestValueWrongDigits(t *testing.T) {
	byEach(t, func(t *testing.T, x api.Table) {
		e := radix.New(x)
		for _, base := range bases() {
			for _, wrong := range []uint64{base, base + 1, most, most - 1, base + (most-base)/2} {
				if wrong < base {
					continue
				}
				for _, n := range []int{1, 2, 3, 64, 65, 300} {
					for _, at := range []int{0, n / 2, n - 1} {
						for _, l := range [][]uint64{same(base-1, n), same(0, n)} {
							l[at] = wrong
							a, err := e.Value(base, l...)
							refused(t, fmt.Sprintf("Value with %d at %d to the base %d", wrong, at, base), err, api.ErrArg, a)
							a, err = e.Value(base, topped(l, 3)...)
							refused(t, fmt.Sprintf("Value with %d at %d to the base %d", wrong, at, base), err, api.ErrArg, a)
						}
					}
				}
			}
		}
		is(t, "Muls", e.Muls(), 0)
		is(t, "Now", e.Now(), 0)
	})
}

// Bases below 2: ErrArg, whatever else is handed in, and nothing beside.
func TestDigitsWrongBases(t *testing.T) {
	byEach(t, func(t *testing.T, x api.Table) {
		e := radix.New(x)
		for _, base := range []uint64{0, 1} {
			for _, a := range slices.Concat(zeros(), []api.Nat{{1}, {2}, {255, 0}, same(most, 50)}) {
				l, err := e.Digits(a, base)
				refused(t, fmt.Sprintf("Digits to the base %d", base), err, api.ErrArg, l)
				n, err := e.Value(base, a...)
				refused(t, fmt.Sprintf("Value to the base %d", base), err, api.ErrArg, n)
			}
			n, err := e.Value(base)
			refused(t, "Value of no digit", err, api.ErrArg, n)
		}
		is(t, "Muls", e.Muls(), 0)
		is(t, "Deep", e.Deep(), 0)
	})
}

// Text and Digits tell of the same digits.
func TestTextIsDigits(t *testing.T) {
	byEach(t, func(t *testing.T, x api.Table) {
		e := radix.New(x)
		src := source(55)
		for n := 1; n < 60; n += 2 {
			a := src.row(n)
			for _, base := range []int{2, 10, 36} {
				l, err := e.Digits(a, uint64(base))
				fine(t, "Digits", err)
				s, err := e.Text(a, base)
				fine(t, "Text", err)
				is(t, "the length", len(s), len(l))
				for i, digit := range l {
					if letter := "0123456789abcdefghijklmnopqrstuvwxyz"[digit]; s[len(s)-1-i] != letter {
						t.Fatalf("at %d stands %c, which is not %d", i, s[len(s)-1-i], digit)
					}
				}
			}
		}
	})
}
