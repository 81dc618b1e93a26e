package div_test

import (
	"fmt"
	"math"
	"math/big"
	"slices"
	"testing"

	"ziggurat/api"
	"ziggurat/div"
	"ziggurat/divs"
	"ziggurat/limb"
	"ziggurat/table"
)

const (
	half = uint64(1) << 63
	most = ^uint64(0)
)

// source is a row of words that is the same in every run; each fourth or so is at an edge.
type source uint64

func (s *source) next() uint64 {
	*s = *s*6364136223846793005 + 1442695040888963407
	x := uint64(*s)
	x ^= x >> 29
	switch x >> 59 {
	case 0, 1:
		return 0
	case 2, 3:
		return most
	case 4:
		return half
	case 5:
		return x & 3
	case 6:
		return most - x&3
	}
	return x * 0x9e3779b97f4a7c15
}

// row has n words, and none on top that is 0.
func (s *source) row(n int) api.Nat {
	a := make(api.Nat, n)
	for i := range a {
		a[i] = s.next()
	}
	if n > 0 && a[n-1] == 0 {
		a[n-1] = 1
	}
	return a
}

func same(x uint64, n int) api.Nat { return slices.Repeat(api.Nat{x}, n) }

// topped is a with n zero words on top, in new memory.
func topped(a api.Nat, n int) api.Nat { return slices.Concat(a, same(0, n)) }

// under is a with that word on top, in new memory.
func under(a api.Nat, top uint64) api.Nat { return slices.Concat(a, api.Nat{top}) }

// above is a with k zero words below, in new memory.
func above(a api.Nat, k int) api.Nat { return slices.Concat(same(0, k), a) }

// tops are the top words that have 1, 2, 32, 33, 63, 64 binary digits, at their edges.
func tops() []uint64 {
	return []uint64{1, 2, 3, 1 << 31, 1 << 32, 1 << 62, half - 1, half, half + 1, most - 1, most}
}

// rows are rows of n words, n above 0, of all kinds: any, the greatest words, powers of two and those next to them, lone words at either end, and noughts within; none has zero words on top.
func rows(n int) []api.Nat {
	s := source(70 + n)
	lone, sparse, within := make(api.Nat, n), make(api.Nat, n), same(most, n)
	lone[n-1] = 1
	sparse[0], sparse[n-1] = most, half
	clear(within[n/3 : n-n/3])
	within[n-1] = most
	list := []api.Nat{s.row(n), s.row(n), same(most, n), same(1, n), same(half, n), lone, sparse, within}
	list = append(list, plus(lone, 1), plus(under(lone[:n-1], half), 1), under(lone[:n-1], half))
	if n > 1 {
		list = append(list, minus(under(lone[:n-1], half), 1), minus(under(lone[:n-1], 2), 1))
	}
	return list
}

// rests are remainders of b: the least, the greatest, the one between, and any.
func rests(s *source, b api.Nat) []api.Nat {
	_, any := parted(s.row(b.Len()), b)
	list := []api.Nat{nil, minus(b, 1), any, limb.Shr(b, 1)}
	if limb.Cmp(b, api.Nat{1}) > 0 {
		list = append(list, api.Nat{1})
	}
	return list
}

// zeros are ways to write 0.
func zeros() []api.Nat {
	return []api.Nat{nil, {}, {0}, {0, 0}, same(0, 5), same(0, 70), same(0, api.MaxWords)}
}

// extremes are the tables that hold the least and the greatest numbers of all.
func extremes() (least, greatest api.Table) {
	return table.Least(slices.Repeat([]int{math.MinInt}, 11)...), table.Least(slices.Repeat([]int{math.MaxInt}, 11)...)
}

// tables have a Div and a Recip that are the least, the greatest, and some between, either one below the other, and send products each way.
func tables() []api.Table {
	least, greatest := extremes()
	return []api.Table{
		{},
		table.Least(4, 12, 64, 4, 4096),
		table.Least(4, 12, 64, 1024, 4096),
		table.Least(4, 8192, 16384, 4, 4),
		table.Least(4, 12, 16384, 4, 5000),
		table.Least(5, 13, 65, 5, 7, 3, 3, 5, 5, 3, 3),
		table.Least(9, 30, 150, 7, 11),
		table.Least(64, 12, 64, 4, 20),
		table.Least(24, 40, 200, 13, 4096),
		table.Least(32, 100, 1000, 20, 5),
		least,
		greatest,
		table.Least(math.MinInt, math.MaxInt, math.MinInt, -1, 33),
		table.Least(math.MaxInt, math.MinInt, math.MaxInt, 6, -33),
	}
}

// byEach asks of every table, each in a test of its own.
func byEach(t *testing.T, f func(t *testing.T, x api.Table)) { byAll(t, tables(), f) }

// byFew asks of those tables alone whose products of the greatest lengths are soon made.
func byFew(t *testing.T, f func(t *testing.T, x api.Table)) {
	_, greatest := extremes()
	byAll(t, []api.Table{{}, table.Least(4, 12, 64, 4, 4096), table.Least(32, 100, 1000, 24, 100), greatest}, f)
}

func byAll(t *testing.T, list []api.Table, f func(t *testing.T, x api.Table)) {
	for i, x := range list {
		t.Run(fmt.Sprint(i), func(t *testing.T) {
			t.Parallel()
			f(t, x)
		})
	}
}

// What is asked, reckoned by the library's great numbers.

// great is the number that has these words.
func great(a api.Nat) *big.Int {
	list := make([]byte, 0, 8*len(a))
	for _, w := range slices.Backward(a) {
		for place := 56; place >= 0; place -= 8 {
			list = append(list, byte(w>>place))
		}
	}
	return new(big.Int).SetBytes(list)
}

// wordsOf are the words of a number, without noughts on top.
func wordsOf(x *big.Int) api.Nat {
	n := (x.BitLen() + 63) / 64
	row := make(api.Nat, n)
	list := x.FillBytes(make([]byte, 8*n))
	for i := range list {
		row[n-1-i/8] = row[n-1-i/8]<<8 | uint64(list[i])
	}
	return row
}

// plus is a + x, minus is a - x, x not above a.
func plus(a api.Nat, x int64) api.Nat { return wordsOf(new(big.Int).Add(great(a), big.NewInt(x))) }

func minus(a api.Nat, x int64) api.Nat { return plus(a, -x) }

func product(a, b api.Nat) api.Nat { return wordsOf(new(big.Int).Mul(great(a), great(b))) }

// back is q b + r.
func back(q, b, r api.Nat) api.Nat {
	x := new(big.Int).Mul(great(q), great(b))
	return wordsOf(x.Add(x, great(r)))
}

// power is 2 to the n.
func power(n int) api.Nat { return wordsOf(new(big.Int).Lsh(big.NewInt(1), uint(n))) }

// parted are quotient and remainder.
func parted(a, b api.Nat) (q, r api.Nat) {
	x, y := new(big.Int).QuoRem(great(a), great(b), new(big.Int))
	return wordsOf(x), wordsOf(y)
}

// longCost is what Long spends for a by b.
func longCost(a, b api.Nat) int {
	n, m := a.Len(), b.Len()
	if n < m {
		return 0
	}
	return (n - m + 1) * (m + 1)
}

// What is held against what is asked.

func is(t *testing.T, told string, answer, asked int) {
	t.Helper()
	if answer != asked {
		t.Fatalf("%s: %d; asked is %d", told, answer, asked)
	}
}

func words(t *testing.T, told string, answer, asked api.Nat) {
	t.Helper()
	if !slices.Equal(answer, asked) {
		t.Fatalf("%s: %x; asked is %x", told, answer, asked)
	}
}

// fine holds that there is no error.
func fine(t *testing.T, told string, err api.Errno) {
	t.Helper()
	is(t, told+": the error", int(err), int(api.OK))
}

// refused holds an error, and that nothing stands beside it.
func refused(t *testing.T, told string, err, asked api.Errno, beside ...api.Nat) {
	t.Helper()
	is(t, told+": the error", int(err), int(asked))
	for _, a := range beside {
		if len(a) != 0 {
			t.Fatalf("%s: beside the error stands %x", told, a)
		}
	}
}

// divided holds quotient and remainder against those that are asked.
func divided(t *testing.T, told string, q, r, askedQ, askedR api.Nat, err api.Errno) {
	t.Helper()
	fine(t, told, err)
	words(t, told+": the quotient", q, askedQ)
	words(t, told+": the remainder", r, askedR)
}

// holds holds quotient and remainder of a by b: against the library's great numbers, and by a = q b + r, r below b.
func holds(t *testing.T, e *div.Engine, told string, a, b, q, r api.Nat, err api.Errno) {
	t.Helper()
	askedQ, askedR := parted(a, b)
	divided(t, told, q, r, askedQ, askedR, err)
	if limb.Cmp(r, b) >= 0 {
		t.Fatalf("%s: the remainder %x is not below %x", told, r, b)
	}
	words(t, told+": q b + r", limb.Add(e.Mul(q, b), r), limb.Norm(a))
}

// checkDivMod holds DivMod, what it spends, and its levels; its meter begins anew.
func checkDivMod(t *testing.T, e *div.Engine, a, b api.Nat) (q, r api.Nat) {
	t.Helper()
	n := a.Len()
	told := fmt.Sprintf("DivMod of %d by %d words", n, b.Len())
	e.Reset()
	e.Enter()
	q, r, err := e.DivMod(a, b)
	is(t, told+": Now", e.Now(), 1)
	if levels := 4*(api.Nat{uint64(n)}).Bits() + 8; e.Muls() > 64*n*n+64 || e.Deep()-1 > levels {
		t.Fatalf("%s: %d are spent, level %d", told, e.Muls(), e.Deep()-1)
	}
	holds(t, div.New(e.Table), told, a, b, q, r, err)
	return q, r
}

// checkHalves holds Halves.
func checkHalves(t *testing.T, e *div.Engine, a, b, askedQ, askedR api.Nat) {
	t.Helper()
	told := fmt.Sprintf("Halves of %d by %d words", a.Len(), b.Len())
	now := e.Now()
	q, r, err := e.Halves(a, b)
	is(t, told+": Now", e.Now(), now)
	divided(t, told, q, r, askedQ, askedR, err)
}

// check holds both, and both against Long.
func check(t *testing.T, e *div.Engine, a, b api.Nat) {
	t.Helper()
	askedQ, askedR := checkDivMod(t, e, a, b)
	spent := e.Muls()
	checkHalves(t, e, a, b, askedQ, askedR)
	q, r, err := divs.New(api.Table{}).Long(a, b)
	divided(t, "Long", q, r, askedQ, askedR, err)
	if e.Muls() < spent {
		t.Fatal("what was spent is gone")
	}
}
