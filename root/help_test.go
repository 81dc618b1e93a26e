package root_test

import (
	"fmt"
	"math"
	"math/big"
	"slices"
	"testing"

	"ziggurat/api"
	"ziggurat/limb"
	"ziggurat/root"
	"ziggurat/table"
)

const (
	half = uint64(1) << 63
	most = ^uint64(0)
)

// source is a row of words that is the same in every run; each fourth or so is at an edge.
type source uint64

func (s *source) next() uint64 {
	*s = *s*6364136223846793005 + 1442695040888963407
	x := uint64(*s)
	x ^= x >> 29
	switch x >> 59 {
	case 0, 1:
		return 0
	case 2, 3:
		return most
	case 4:
		return half
	case 5:
		return x & 3
	case 6:
		return most - x&3
	}
	return x * 0x9e3779b97f4a7c15
}

// row has n words, and none on top that is 0.
func (s *source) row(n int) api.Nat {
	a := make(api.Nat, n)
	for i := range a {
		a[i] = s.next()
	}
	if n > 0 && a[n-1] == 0 {
		a[n-1] = 1
	}
	return a
}

func same(x uint64, n int) api.Nat { return slices.Repeat(api.Nat{x}, n) }

// topped is a with n zero words on top, in new memory.
func topped(a api.Nat, n int) api.Nat { return slices.Concat(a, same(0, n)) }

// under is a with that word on top, in new memory.
func under(a api.Nat, top uint64) api.Nat { return slices.Concat(a, api.Nat{top}) }

// above is a with k zero words below, in new memory.
func above(a api.Nat, k int) api.Nat { return slices.Concat(same(0, k), a) }

// tops are top words of few and of many binary digits, even and odd, at their edges.
func tops() []uint64 {
	return []uint64{1, 2, 3, 4, 1 << 31, 1<<32 - 1, 1 << 32, 1<<62 - 1, 1 << 62, half - 1, half, half + 1, most - 1, most}
}

// rows are rows of n words, n above 0, of all kinds: any, the greatest words, powers of two and those next to them, lone words at either end, and noughts within; none has zero words on top.
func rows(n int) []api.Nat {
	s := source(70 + n)
	lone, sparse, within := make(api.Nat, n), make(api.Nat, n), same(most, n)
	lone[n-1] = 1
	sparse[0], sparse[n-1] = most, half
	clear(within[n/3 : n-n/3])
	within[n-1] = most
	list := []api.Nat{s.row(n), s.row(n), same(most, n), same(1, n), same(half, n), lone, sparse, within}
	list = append(list, plus(lone, 1), plus(under(lone[:n-1], half), 1), under(lone[:n-1], half))
	if n > 1 {
		list = append(list, minus(under(lone[:n-1], half), 1), minus(under(lone[:n-1], 2), 1))
	}
	return list
}

// zeros are ways to write 0.
func zeros() []api.Nat {
	return []api.Nat{nil, {}, {0}, {0, 0}, same(0, 5), same(0, 70), same(0, api.MaxWords)}
}

// wrong are the k that no root has.
func wrong() []int { return []int{0, -1, -2, -64, 65, 66, 128, 1 << 40, math.MinInt, math.MaxInt} }

// extremes are the tables that hold the least and the greatest numbers of all.
func extremes() (least, greatest api.Table) {
	return table.Least(slices.Repeat([]int{math.MinInt}, 11)...), table.Least(slices.Repeat([]int{math.MaxInt}, 11)...)
}

// tables have a Base, a Toom, an Ntt, a Div and a Recip that are the least, the greatest, and some between: they send products and quotients each way.
func tables() []api.Table {
	least, greatest := extremes()
	return []api.Table{
		{},
		table.Least(4, 12, 64, 4, 4096),
		table.Least(4, 12, 64, 1024, 4096),
		table.Least(4, 8192, 16384, 4, 4),
		table.Least(4, 12, 16384, 4, 5000),
		table.Least(5, 13, 65, 5, 7, 3, 3, 5, 5, 3, 3),
		table.Least(9, 30, 150, 7, 11),
		table.Least(64, 12, 64, 4, 20),
		table.Least(24, 40, 200, 13, 4096),
		table.Least(32, 100, 1000, 20, 5),
		least,
		greatest,
		table.Least(math.MinInt, math.MaxInt, math.MinInt, -1, 33),
		table.Least(math.MaxInt, math.MinInt, math.MaxInt, 6, -33),
	}
}

// byEach asks of every table, each in a test of its own.
func byEach(t *testing.T, f func(t *testing.T, x api.Table)) { byAll(t, tables(), f) }

// byFew asks of those tables alone whose products of the greatest lengths are soon made.
func byFew(t *testing.T, f func(t *testing.T, x api.Table)) {
	_, greatest := extremes()
	byAll(t, []api.Table{{}, table.Least(4, 12, 64, 4, 4096), table.Least(32, 100, 1000, 24, 100), greatest}, f)
}

func byAll(t *testing.T, list []api.Table, f func(t *testing.T, x api.Table)) {
	t.Parallel()
	for i, x := range list {
		t.Run(fmt.Sprint(i), func(t *testing.T) {
			t.Parallel()
			f(t, x)
		})
	}
}

// What is asked, reckoned by the library's great numbers.

// great is the number that has these words.
func great(a api.Nat) *big.Int {
	list := make([]byte, 0, 8*len(a))
	for _, w := range slices.Backward(a) {
		for place := 56; place >= 0; place -= 8 {
			list = append(list, byte(w>>place))
		}
	}
	return new(big.Int).SetBytes(list)
}

// wordsOf are the words of a number, without noughts on top.
func wordsOf(x *big.Int) api.Nat {
	n := (x.BitLen() + 63) / 64
	row := make(api.Nat, n)
	list := x.FillBytes(make([]byte, 8*n))
	for i := range list {
		row[n-1-i/8] = row[n-1-i/8]<<8 | uint64(list[i])
	}
	return row
}

// plus is a + x, minus is a - x, x not above a.
func plus(a api.Nat, x int64) api.Nat { return wordsOf(new(big.Int).Add(great(a), big.NewInt(x))) }

func minus(a api.Nat, x int64) api.Nat { return plus(a, -x) }

func product(a, b api.Nat) api.Nat { return wordsOf(new(big.Int).Mul(great(a), great(b))) }

// together is a + b.
func together(a, b api.Nat) api.Nat { return wordsOf(new(big.Int).Add(great(a), great(b))) }

// power is 2 to the n.
func power(n int) api.Nat { return wordsOf(new(big.Int).Lsh(big.NewInt(1), uint(n))) }

// raised is a to the k.
func raised(a api.Nat, k int) api.Nat {
	return wordsOf(new(big.Int).Exp(great(a), big.NewInt(int64(k)), nil))
}

// squareRoot is a's square root, rounded down, and what is left.
func squareRoot(a api.Nat) (s, r api.Nat) {
	x := great(a)
	y := new(big.Int).Sqrt(x)
	return wordsOf(y), wordsOf(x.Sub(x, new(big.Int).Mul(y, y)))
}

// What is held against what is asked.

func is(t *testing.T, told string, answer, asked int) {
	t.Helper()
	if answer != asked {
		t.Fatalf("%s: %d; asked is %d", told, answer, asked)
	}
}

func words(t *testing.T, told string, answer, asked api.Nat) {
	t.Helper()
	if !slices.Equal(answer, asked) {
		t.Fatalf("%s: %x; asked is %x", told, answer, asked)
	}
}

// fine holds that there is no error.
func fine(t *testing.T, told string, err api.Errno) {
	t.Helper()
	is(t, told+": the error", int(err), int(api.OK))
}

// refused holds an error, and that nothing stands beside it.
func refused(t *testing.T, told string, err, asked api.Errno, beside ...api.Nat) {
	t.Helper()
	is(t, told+": the error", int(err), int(asked))
	for _, a := range beside {
		if len(a) != 0 {
			t.Fatalf("%s: beside the error stands %x", told, a)
		}
	}
}

// checkSqrt holds Sqrt and its level: against the library's root, by r at most 2 s, and by s s + r = a.
func checkSqrt(t *testing.T, e *root.Engine, a api.Nat) (s, r api.Nat) {
	t.Helper()
	told := fmt.Sprintf("Sqrt of %d words", a.Len())
	now := e.Now()
	s, r = e.Sqrt(a)
	is(t, told+": Now", e.Now(), now)
	askedS, askedR := squareRoot(a)
	words(t, told, s, askedS)
	words(t, told+": what is left", r, askedR)
	if limb.Cmp(r, limb.Shl(s, 1)) > 0 {
		t.Fatalf("%s: %x is left, which is above twice %x", told, r, s)
	}
	words(t, told+": s s + r", limb.Add(e.Engine.Mul(s, s), r), limb.Norm(a))
	return s, r
}

// checkSquare holds Square and its level, against the library's root.
func checkSquare(t *testing.T, e *root.Engine, a api.Nat) {
	t.Helper()
	told := fmt.Sprintf("Square of %d words", a.Len())
	now := e.Now()
	s, ok := e.Square(a)
	is(t, told+": Now", e.Now(), now)
	asked, rest := squareRoot(a)
	if ok != rest.Zero() {
		t.Fatalf("%s: %v of %x", told, ok, a)
	}
	if !ok {
		asked = nil
	}
	words(t, told, s, asked)
}

// checkRoot holds Root and its level: its power is at most a, that of the next number is above.
func checkRoot(t *testing.T, e *root.Engine, a api.Nat, k int) api.Nat {
	t.Helper()
	told := fmt.Sprintf("Root of %d words, k %d", a.Len(), k)
	now := e.Now()
	x, err := e.Root(a, k)
	is(t, told+": Now", e.Now(), now)
	fine(t, told, err)
	is(t, told+": the length", len(x), x.Len())
	if limb.Cmp(raised(x, k), a) > 0 {
		t.Fatalf("%s: the power of %x is above %x", told, x, a)
	}
	if limb.Cmp(raised(plus(x, 1), k), a) <= 0 {
		t.Fatalf("%s: the power of one more than %x is not above %x", told, x, a)
	}
	return x
}

// checkRootIs holds that this is the root.
func checkRootIs(t *testing.T, e *root.Engine, a api.Nat, k int, asked api.Nat) {
	t.Helper()
	told := fmt.Sprintf("Root of %d words, k %d", a.Len(), k)
	now := e.Now()
	x, err := e.Root(a, k)
	is(t, told+": Now", e.Now(), now)
	fine(t, told, err)
	words(t, told, x, asked)
}

// check holds Sqrt, Square, and Root with that k; that of 2 and that of 1, too.
func check(t *testing.T, e *root.Engine, a api.Nat, k int) {
	t.Helper()
	s, _ := checkSqrt(t, e, a)
	checkSquare(t, e, a)
	checkRoot(t, e, a, k)
	checkRootIs(t, e, a, 2, s)
	checkRootIs(t, e, a, 1, limb.Norm(a))
}
