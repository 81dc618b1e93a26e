package radix_test

import (
	"fmt"
	"math/bits"
	"slices"
	"testing"

	"ziggurat/api"
	"ziggurat/radix"
	"ziggurat/table"
)

// P17.3: trees of powers, and tables. Which way a number goes is to be seen in what is spent alone.

// byRadix are tables that are one but for Radix.
func byRadix(l ...int) []api.Table {
	var list []api.Table
	for _, n := range l {
		list = append(list, table.Least(32, 100, 1000, 24, 100, 2, n))
	}
	return list
}

// block is the greatest power of the base that goes into a word.
func block(base uint64) uint64 {
	p := base
	for p <= most/base {
		p *= base
	}
	return p
}

// byHand is what it costs by hand: a's digits, by dividing by a word again and again, 2 n for a quotient of n words; and the number again, by multiplying by that word as often, n for n words.
func byHand(a api.Nat, base uint64) (down, up int) {
	p := block(base)
	rest := slices.Clone(a)
	for len(rest) > 0 {
		down += 2 * len(rest)
		var digit uint64
		for i := range slices.Backward(rest) {
			rest[i], digit = bits.Div64(digit, rest[i], p)
		}
		rest = rest[:rest.Len()]
	}
	return down, down/2 - len(a)
}

// spentBy is what each of the four calls spends for a; those of texts only where base is one of a text, else those of digits again.
func spentBy(t *testing.T, e *radix.Engine, a api.Nat, base uint64) (text, parse, digits, value int) {
	t.Helper()
	e.Reset()
	l, err := e.Digits(a, base)
	fine(t, "Digits", err)
	digits = e.Muls()
	e.Reset()
	e.Value(base, l...)
	value = e.Muls()
	if base > 36 {
		return digits, value, digits, value
	}
	e.Reset()
	s, err := e.Text(a, int(base))
	fine(t, "Text", err)
	text = e.Muls()
	e.Reset()
	e.Parse(s, int(base))
	return text, e.Muls(), digits, value
}

// With fewer than Radix words digits are had by hand, and with Radix words and more they are not.
func TestTreeIsEntered(t *testing.T) {
	t.Parallel()
	src := source(61)
	for _, least := range []int{2, 3, 5, 16, 30, 100, 1024} {
		e := radix.New(byRadix(least)[0])
		for _, base := range []uint64{2, 3, 10, 16, 36, 1 << 32, 1<<33 - 1, most} {
			for _, n := range []int{1, least / 2, least - 1} {
				a := src.row(n)
				told := fmt.Sprintf("%d words to the base %d, Radix %d", n, base, least)
				text, _, digits, _ := spentBy(t, e, a, base)
				down, _ := byHand(a, base)
				is(t, "Text of "+told, text, down)
				is(t, "Digits of "+told, digits, down)
			}
			if least < 16 {
				continue // so few words may cost as much either way
			}
			for _, n := range []int{least, least + 1, 2*least - 1, 2 * least} {
				a := src.row(n)
				text, _, digits, _ := spentBy(t, e, a, base)
				if down, _ := byHand(a, base); text == down || digits == down {
					t.Errorf("Text and Digits of %d words to the base %d, Radix %d, spend %d and %d, as by hand", n, base, least, text, digits)
				}
			}
		}
	}
}

// So are numbers of digits; but only how many words there may be is known of them before.
func TestTreeIsEnteredByDigits(t *testing.T) {
	t.Parallel()
	src := source(62)
	for _, least := range []int{3, 5, 16, 30, 100, 1024} {
		e := radix.New(byRadix(least)[0])
		for _, base := range []uint64{2, 3, 10, 16, 36, 1 << 32, 1<<33 - 1, most} {
			for _, n := range []int{1, least / 2, least*95/100 - 1} {
				a := src.row(n)
				told := fmt.Sprintf("%d words to the base %d, Radix %d", n, base, least)
				_, parse, _, value := spentBy(t, e, a, base)
				_, up := byHand(a, base)
				is(t, "Parse of "+told, parse, up)
				is(t, "Value of "+told, value, up)
			}
			if least < 16 {
				continue
			}
			for _, n := range []int{least, least + 1, 2*least - 1, 2 * least} {
				a := src.row(n)
				_, parse, _, value := spentBy(t, e, a, base)
				if _, up := byHand(a, base); parse == up || value == up {
					t.Errorf("Parse and Value of %d words to the base %d, Radix %d, spend %d and %d, as by hand", n, base, least, parse, value)
				}
			}
		}
	}
}

// Where a power of two is the base, and its digits fill words, it is known how many words there are; where the base is next above, it is known that there is one more.
func TestTreeIsEnteredAtTheEdge(t *testing.T) {
	t.Parallel()
	for _, least := range []int{2, 3, 5, 16, 30, 100, 1024} {
		e := radix.New(byRadix(least)[0])
		for _, c := range []struct {
			base  uint64
			count int
			hand  bool
		}{{1 << 32, 2*least - 2, true}, {1 << 32, 2*least - 1, false}, {1<<32 + 1, 2*least - 2, false}, {most, least - 1, true}, {most, least, false}} {
			if least < 16 && !c.hand {
				continue
			}
			e.Reset()
			a, err := e.Value(c.base, same(c.base-1, c.count)...)
			fine(t, "Value", err)
			if _, up := byHand(a, c.base); (e.Muls() == up) != c.hand {
				t.Errorf("Value of %d digits to the base %d, Radix %d, spends %d; by hand %d", c.count, c.base, least, e.Muls(), up)
			}
		}
	}
}

// By a tree long numbers cost far less than by hand.
func TestTreeSpendsLess(t *testing.T) {
	t.Parallel()
	a := slices.Repeat(api.Nat{most, 3, half}, 1300) // whose text to the base 16 is read again, too
	for _, base := range []uint64{2, 10, 16, 36, 1<<32 + 1, most} {
		for _, x := range byRadix(2, 300) {
			text, parse, digits, value := spentBy(t, radix.New(x), a, base)
			down, up := byHand(a, base)
			if text > down/2 || digits > down/2 {
				t.Errorf("Text and Digits of %d words to the base %d, Radix %d, spend %d and %d; by hand %d", len(a), base, x.Radix, text, digits, down)
			}
			if parse > up/3 || value > up/3 {
				t.Errorf("Parse and Value of %d words to the base %d, Radix %d, spend %d and %d; by hand %d", len(a), base, x.Radix, parse, value, up)
			}
		}
	}
}

// Tables that are one but for Radix answer the same.
func TestRadixAnswersTheSame(t *testing.T) {
	byAll(t, byRadix(-1, 2, 3, 4, 5, 8, 16, 17, 33, 100, 256, 1<<40), func(t *testing.T, x api.Table) {
		e, first := radix.New(x), radix.New(api.Table{})
		src := source(63)
		for n := 1; n < 500; n += 1 + n/3 {
			a := src.row(n)
			for i, base := range []uint64{2, 7, 10, 36, 1<<32 - 1, 1 << 63, most} {
				l, err := first.Digits(a, base)
				fine(t, "Digits", err)
				other, err := e.Digits(a, base)
				fine(t, "Digits", err)
				words(t, fmt.Sprintf("Digits of %d words to the base %d, Radix %d", n, base, x.Radix), other, l)
				checkValue(t, first, base, topped(l, i), a)
				checkValue(t, e, base, topped(l, i), a)
			}
			for _, base := range []int{2, 3, 10, 32, 36} {
				s, err := first.Text(a, base)
				fine(t, "Text", err)
				other, err := e.Text(a, base)
				fine(t, "Text", err)
				if other != s {
					t.Fatalf("Text of %d words to the base %d, Radix %d: %s; asked is %s", n, base, x.Radix, other, s)
				}
				checkParse(t, first, "00"+s, base, a)
				checkParse(t, e, "00"+s, base, a)
			}
		}
	})
}

// Numbers whose digits are noughts in long rows: pieces of a tree are 0, at each place, and those above them are not.
func TestTreeOfNoughts(t *testing.T) {
	byEach(t, func(t *testing.T, x api.Table) {
		e := radix.New(x)
		for _, base := range []uint64{2, 10, 36, 1 << 32, most} {
			for _, n := range []int{3, 40, 41, 64, 65, 300, 640} {
				for _, at := range [][]int{{n - 1}, {0, n - 1}, {n / 2, n - 1}, {n/2 - 1, n - 1}, {n / 4, n/2 + 1, n - 1}} {
					l := make([]uint64, n)
					for _, i := range at {
						l[i] = base - 1
					}
					a := value(base, l)
					checkValue(t, e, base, l, a)
					checkDigits(t, e, a, base)
				}
			}
		}
	})
}
