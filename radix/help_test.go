package radix_test

import (
	"fmt"
	"math"
	"math/big"
	"math/bits"
	"runtime/debug"
	"slices"
	"testing"

	"ziggurat/api"
	"ziggurat/limb"
	"ziggurat/radix"
	"ziggurat/table"
)

const (
	half = uint64(1) << 63
	most = ^uint64(0)
)

// TestMain lets more garbage lie than is the custom: these calls leave much of it, soon after one another, and half of the time would go into sweeping.
func TestMain(m *testing.M) {
	debug.SetGCPercent(400)
	m.Run()
}

// source is a row of words that is the same in every run; each fourth or so is at an edge.
type source uint64

func (s *source) next() uint64 {
	*s = *s*6364136223846793005 + 1442695040888963407
	x := uint64(*s)
	x ^= x >> 29
	switch x >> 59 {
	case 0, 1:
		return 0
	case 2, 3:
		return most
	case 4:
		return half
	case 5:
		return x & 3
	case 6:
		return most - x&3
	}
	return x * 0x9e3779b97f4a7c15
}

// row has n words, and none on top that is 0.
func (s *source) row(n int) api.Nat {
	a := make(api.Nat, n)
	for i := range a {
		a[i] = s.next()
	}
	if n > 0 && a[n-1] == 0 {
		a[n-1] = 1
	}
	return a
}

func same(x uint64, n int) api.Nat { return slices.Repeat(api.Nat{x}, n) }

// topped is a with n zero words on top, in new memory.
func topped(a api.Nat, n int) api.Nat { return slices.Concat(a, same(0, n)) }

// under is a with that word on top, in new memory.
func under(a api.Nat, top uint64) api.Nat { return slices.Concat(a, api.Nat{top}) }

// above is a with k zero words below, in new memory.
func above(a api.Nat, k int) api.Nat { return slices.Concat(same(0, k), a) }

// rows are rows of n words, n above 0, of all kinds: any, the greatest words, powers of two and those next to them, lone words at either end, and noughts within; none has zero words on top.
func rows(n int) []api.Nat {
	s := source(70 + n)
	lone, sparse, within := make(api.Nat, n), make(api.Nat, n), same(most, n)
	lone[n-1] = 1
	sparse[0], sparse[n-1] = most, half
	clear(within[n/3 : n-n/3])
	within[n-1] = most
	list := []api.Nat{s.row(n), s.row(n), same(most, n), same(1, n), same(half, n), lone, sparse, within}
	list = append(list, plus(lone, 1), plus(under(lone[:n-1], half), 1), under(lone[:n-1], half))
	if n > 1 {
		list = append(list, minus(under(lone[:n-1], half), 1), minus(under(lone[:n-1], 2), 1))
	}
	return list
}

// textBases are all bases that a text may have.
func textBases() []int {
	var list []int
	for base := 2; base <= 36; base++ {
		list = append(list, base)
	}
	return list
}

// noTextBases are bases that no text has.
func noTextBases() []int {
	return []int{1, 0, -1, -2, -10, -36, 37, 38, 64, 256, 1 << 32, 1<<32 + 10, math.MinInt, math.MinInt + 10, math.MaxInt}
}

// bases are those of digits, to the greatest word: few digits and many go into a word, with room left and with none.
func bases() []uint64 {
	return []uint64{2, 3, 4, 7, 10, 16, 36, 37, 255, 256, 1000, 65536, 1<<21 + 1, 1<<32 - 1, 1 << 32, 1<<32 + 1, 1<<40 + 3, half - 1, half, half + 1, most - 2, most - 1, most}
}

// zeros are ways to write 0.
func zeros() []api.Nat {
	return []api.Nat{nil, {}, {0}, {0, 0}, same(0, 5), same(0, 70), same(0, api.MaxWords)}
}

// extremes are the tables that hold the least and the greatest numbers of all.
func extremes() (least, greatest api.Table) {
	return table.Least(slices.Repeat([]int{math.MinInt}, 11)...), table.Least(slices.Repeat([]int{math.MaxInt}, 11)...)
}

// tables have a Radix, a Base, a Toom, an Ntt, a Div and a Recip that are the least, the greatest, and some between: numbers go by small trees, by great ones and by none, and products and quotients each way.
func tables() []api.Table {
	least, greatest := extremes()
	return []api.Table{
		{},
		table.Least(4, 12, 64, 4, 4096, 2, 2),
		table.Least(4, 12, 64, 1024, 4096, 2, 1024),
		table.Least(4, 8192, 16384, 4, 4, 2, 2000),
		table.Least(4, 12, 16384, 4, 5000, 2, 3),
		table.Least(5, 13, 65, 5, 7, 3, 4, 5, 5, 3, 3),
		table.Least(9, 30, 150, 7, 11, 2, 5),
		table.Least(64, 12, 64, 4, 20, 2, 7),
		table.Least(24, 40, 200, 13, 4096, 2, 40),
		table.Least(32, 100, 1000, 20, 5, 2, 16),
		least,
		greatest,
		table.Least(math.MinInt, math.MaxInt, math.MinInt, -1, 33, 2, 100),
		table.Least(math.MaxInt, math.MinInt, math.MaxInt, 6, -33, 2, -5),
	}
}

// byEach asks of every table, each in a test of its own.
func byEach(t *testing.T, f func(t *testing.T, x api.Table)) { byAll(t, tables(), f) }

// byFew asks of those tables alone that soon answer where numbers are of the greatest lengths.
func byFew(t *testing.T, f func(t *testing.T, x api.Table)) {
	_, greatest := extremes()
	byAll(t, []api.Table{{}, table.Least(4, 12, 64, 4, 4096, 2, 2), table.Least(32, 100, 1000, 24, 100, 2, 30), greatest}, f)
}

func byAll(t *testing.T, list []api.Table, f func(t *testing.T, x api.Table)) {
	t.Parallel()
	for i, x := range list {
		t.Run(fmt.Sprint(i), func(t *testing.T) {
			t.Parallel()
			f(t, x)
		})
	}
}

// What is asked, reckoned by the library's great numbers.

// great is the number that has these words.
func great(a api.Nat) *big.Int {
	list := make([]byte, 0, 8*len(a))
	for _, w := range slices.Backward(a) {
		for place := 56; place >= 0; place -= 8 {
			list = append(list, byte(w>>place))
		}
	}
	return new(big.Int).SetBytes(list)
}

// wordsOf are the words of a number, without noughts on top.
func wordsOf(x *big.Int) api.Nat {
	n := (x.BitLen() + 63) / 64
	row := make(api.Nat, n)
	list := x.FillBytes(make([]byte, 8*n))
	for i := range list {
		row[n-1-i/8] = row[n-1-i/8]<<8 | uint64(list[i])
	}
	return row
}

// plus is a + x, minus is a - x, x not above a.
func plus(a api.Nat, x int64) api.Nat { return wordsOf(new(big.Int).Add(great(a), big.NewInt(x))) }

func minus(a api.Nat, x int64) api.Nat { return plus(a, -x) }

func product(a, b api.Nat) api.Nat { return wordsOf(new(big.Int).Mul(great(a), great(b))) }

// raised is a to the k.
func raised(a api.Nat, k int) api.Nat {
	return wordsOf(new(big.Int).Exp(great(a), big.NewInt(int64(k)), nil))
}

// What is held against what is asked.

func is(t *testing.T, told string, answer, asked int) {
	t.Helper()
	if answer != asked {
		t.Fatalf("%s: %d; asked is %d", told, answer, asked)
	}
}

func words(t *testing.T, told string, answer, asked api.Nat) {
	t.Helper()
	if !slices.Equal(answer, asked) {
		t.Fatalf("%s: %x; asked is %x", told, answer, asked)
	}
}

// fine holds that there is no error.
func fine(t *testing.T, told string, err api.Errno) {
	t.Helper()
	is(t, told+": the error", int(err), int(api.OK))
}

// refused holds an error, and that nothing stands beside it.
func refused(t *testing.T, told string, err, asked api.Errno, beside ...api.Nat) {
	t.Helper()
	is(t, told+": the error", int(err), int(asked))
	for _, a := range beside {
		if len(a) != 0 {
			t.Fatalf("%s: beside the error stands %x", told, a)
		}
	}
}

// text is a's digits as the library writes them.
func text(a api.Nat, base int) string { return great(a).Text(base) }

// digits are a's digits, the lowest first, by dividing by the base as often as it goes.
func digits(a api.Nat, base uint64) []uint64 {
	var list []uint64
	rest := slices.Clone(a)
	for rest = rest[:rest.Len()]; len(rest) > 0; rest = rest[:rest.Len()] {
		var digit uint64
		for i := range slices.Backward(rest) {
			rest[i], digit = bits.Div64(digit, rest[i], base)
		}
		list = append(list, digit)
	}
	return list
}

// value is the number with these digits, the lowest first.
func value(base uint64, l []uint64) api.Nat {
	x, b := new(big.Int), new(big.Int).SetUint64(base)
	for _, digit := range slices.Backward(l) {
		x.Add(x.Mul(x, b), new(big.Int).SetUint64(digit))
	}
	return wordsOf(x)
}

// checkText holds Text and its level, and Parse of that text and of the same with noughts ahead.
func checkText(t *testing.T, e *radix.Engine, a api.Nat, base int) {
	t.Helper()
	told := fmt.Sprintf("Text of %d words to the base %d", a.Len(), base)
	now := e.Now()
	s, err := e.Text(a, base)
	is(t, told+": Now", e.Now(), now)
	fine(t, told, err)
	if asked := text(a, base); s != asked {
		t.Fatalf("%s: %s; asked is %s", told, s, asked)
	}
	for _, ahead := range []string{"", "0", "000"} {
		checkParse(t, e, ahead+s, base, limb.Norm(a))
	}
}

// checkParse holds Parse and its level; a text that is too long is none.
func checkParse(t *testing.T, e *radix.Engine, s string, base int, asked api.Nat) {
	t.Helper()
	told := fmt.Sprintf("Parse of %d bytes to the base %d", len(s), base)
	now := e.Now()
	a, err := e.Parse(s, base)
	is(t, told+": Now", e.Now(), now)
	if len(s) > api.MaxText {
		refused(t, told, err, api.ErrText, a)
		return
	}
	fine(t, told, err)
	words(t, told, a, asked)
}

// checkDigits holds Digits and its level, and Value of these digits and of the same with noughts on top.
func checkDigits(t *testing.T, e *radix.Engine, a api.Nat, base uint64) {
	t.Helper()
	told := fmt.Sprintf("Digits of %d words to the base %d", a.Len(), base)
	now := e.Now()
	l, err := e.Digits(a, base)
	is(t, told+": Now", e.Now(), now)
	fine(t, told, err)
	words(t, told, l, digits(a, base))
	for more := range 3 {
		checkValue(t, e, base, topped(l, more), limb.Norm(a))
	}
}

// checkValue holds Value and its level.
func checkValue(t *testing.T, e *radix.Engine, base uint64, l []uint64, asked api.Nat) {
	t.Helper()
	told := fmt.Sprintf("Value of %d digits to the base %d", len(l), base)
	now := e.Now()
	a, err := e.Value(base, l...)
	is(t, told+": Now", e.Now(), now)
	fine(t, told, err)
	words(t, told, a, asked)
}
