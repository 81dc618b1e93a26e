package num_test

import (
	"fmt"
	"math"
	"math/big"
	"runtime/debug"
	"slices"
	"testing"

	"ziggurat/api"
	"ziggurat/num"
	"ziggurat/table"
)

const (
	half = uint64(1) << 63
	most = ^uint64(0)
)

// TestMain lets more garbage lie than is the custom: these calls leave much of it, soon after one another, and half of the time would go into sweeping.
func TestMain(m *testing.M) {
	debug.SetGCPercent(400)
	m.Run()
}

// source is a row of words that is the same in every run; each fourth or so is at an edge.
type source uint64

func (s *source) next() uint64 {
	*s = *s*6364136223846793005 + 1442695040888963407
	x := uint64(*s)
	x ^= x >> 29
	switch x >> 59 {
	case 0, 1:
		return 0
	case 2, 3:
		return most
	case 4:
		return half
	case 5:
		return x & 3
	case 6:
		return most - x&3
	}
	return x * 0x9e3779b97f4a7c15
}

// row has n words, and none on top that is 0.
func (s *source) row(n int) api.Nat {
	a := make(api.Nat, n)
	for i := range a {
		a[i] = s.next()
	}
	if n > 0 && a[n-1] == 0 {
		a[n-1] = 1
	}
	return a
}

func same(x uint64, n int) api.Nat { return slices.Repeat(api.Nat{x}, n) }

// topped is a with n zero words on top, in new memory.
func topped(a api.Nat, n int) api.Nat { return slices.Concat(a, same(0, n)) }

// up is the number of that size, down is it below 0; both are a copy.
func up(a api.Nat) api.Int { return api.Int{Nat: slices.Clone(a)} }

func down(a api.Nat) api.Int { return api.Int{Nat: slices.Clone(a), Neg: true} }

// contrary is -a, in new memory.
func contrary(a api.Int) api.Int { return api.Int{Nat: slices.Clone(a.Nat), Neg: !a.Neg} }

// signs are the four pairs of signs of two sizes.
func signs(a, b api.Nat) [][2]api.Int {
	return [][2]api.Int{{up(a), up(b)}, {up(a), down(b)}, {down(a), up(b)}, {down(a), down(b)}}
}

// zeros are ways to write 0.
func zeros() []api.Int {
	var list []api.Int
	for _, a := range []api.Nat{nil, {}, {0}, {0, 0}, same(0, 5), same(0, 70), same(0, api.MaxWords)} {
		list = append(list, api.Int{Nat: a}, api.Int{Nat: a, Neg: true})
	}
	return list
}

// forms are ways to write a number.
func forms(a api.Int) []api.Int {
	if a.Zero() {
		return zeros()[:10]
	}
	list := []api.Int{a}
	for _, n := range []int{1, 2, 9} {
		list = append(list, api.Int{Nat: topped(a.Nat, n), Neg: a.Neg})
	}
	return list
}

// sizes are 0, powers of two and of B and the numbers next to them, and rows of some words to n, of all kinds.
func sizes(n int) []api.Nat {
	list := []api.Nat{nil, {1}, {2}, {3}, {7}, {10}}
	for _, bit := range []uint{31, 32, 62, 63, 64, 65, 127, 128, 129, 192, 64*7 - 1, 64 * 7} {
		x := new(big.Int).Lsh(big.NewInt(1), bit)
		for next := int64(-1); next <= 1; next++ {
			list = append(list, wordsOf(new(big.Int).Add(x, big.NewInt(next))))
		}
	}
	s := source(40)
	for k := 1; k <= n; k += 1 + k/2 {
		lone := slices.Concat(same(0, k-1), api.Nat{1})
		list = append(list, s.row(k), s.row(k), same(most, k), same(half, k), lone)
	}
	return list
}

// numbers are those of these sizes, above 0 and below.
func numbers(n int) []api.Int {
	var list []api.Int
	for _, a := range sizes(n) {
		list = append(list, up(a))
		if len(a) > 0 {
			list = append(list, down(a))
		}
	}
	return list
}

// extremes are the tables that hold the least and the greatest numbers of all.
func extremes() (least, greatest api.Table) {
	return table.Least(slices.Repeat([]int{math.MinInt}, 11)...), table.Least(slices.Repeat([]int{math.MaxInt}, 11)...)
}

// tables have entries that are the least, the greatest, and some between, so that products and quotients go each way.
func tables() []api.Table {
	least, greatest := extremes()
	return []api.Table{
		{},
		table.Least(4, 12, 64, 4, 4096, 2, 2),
		table.Least(4, 12, 64, 1024, 4096, 2, 1024),
		table.Least(4, 8192, 16384, 4, 4, 2, 2000),
		table.Least(4, 12, 16384, 4, 5000, 2, 3),
		table.Least(5, 13, 65, 5, 7, 3, 4, 5, 5, 3, 3),
		table.Least(9, 30, 150, 7, 11, 2, 5),
		table.Least(64, 12, 64, 4, 20, 2, 7),
		table.Least(24, 40, 200, 13, 4096, 2, 40),
		table.Least(32, 100, 1000, 20, 5, 2, 16),
		least,
		greatest,
		table.Least(math.MinInt, math.MaxInt, math.MinInt, -1, 33, 2, 100),
		table.Least(math.MaxInt, math.MinInt, math.MaxInt, 6, -33, 2, -5),
	}
}

// byEach asks of every table, each in a test of its own.
func byEach(t *testing.T, f func(t *testing.T, x api.Table)) {
	t.Parallel()
	for i, x := range tables() {
		t.Run(fmt.Sprint(i), func(t *testing.T) {
			t.Parallel()
			f(t, x)
		})
	}
}

// What is asked, reckoned by the library's great numbers.

// great is the number.
func great(a api.Int) *big.Int {
	list := make([]byte, 0, 8*len(a.Nat))
	for _, w := range slices.Backward(a.Nat) {
		for place := 56; place >= 0; place -= 8 {
			list = append(list, byte(w>>place))
		}
	}
	x := new(big.Int).SetBytes(list)
	if a.Neg {
		x.Neg(x)
	}
	return x
}

// wordsOf are the words of a number's size, without noughts on top.
func wordsOf(x *big.Int) api.Nat {
	n := (x.BitLen() + 63) / 64
	row := make(api.Nat, n)
	list := x.FillBytes(make([]byte, 8*n))
	for i := range list {
		row[n-1-i/8] = row[n-1-i/8]<<8 | uint64(list[i])
	}
	return row
}

// intOf is the number, normal.
func intOf(x *big.Int) api.Int { return api.Int{Nat: wordsOf(x), Neg: x.Sign() < 0} }

// What is held against what is asked. What is told is written out only where it is needed.

// of tells what was asked of two numbers.
type of struct {
	what string
	a, b api.Int
}

func (o of) String() string {
	return fmt.Sprintf("%s of %v %x and %v %x", o.what, o.a.Neg, o.a.Nat, o.b.Neg, o.b.Nat)
}

func is(t *testing.T, told any, answer, asked int) {
	t.Helper()
	if answer != asked {
		t.Fatalf("%v: %d; asked is %d", told, answer, asked)
	}
}

// whole holds a number, and that it is normal.
func whole(t *testing.T, told any, answer api.Int, asked *big.Int) {
	t.Helper()
	if answer.Neg != (asked.Sign() < 0) || !slices.Equal(answer.Nat, wordsOf(asked)) {
		t.Fatalf("%v: %v %x; asked is %x", told, answer.Neg, answer.Nat, asked)
	}
}

func words(t *testing.T, told any, answer, asked api.Nat) {
	t.Helper()
	if !slices.Equal(answer, asked) {
		t.Fatalf("%v: %x; asked is %x", told, answer, asked)
	}
}

// refused holds an error, and that nothing stands beside it.
func refused(t *testing.T, told any, err, asked api.Errno, beside ...api.Int) {
	t.Helper()
	if err != asked {
		t.Fatalf("%v: the error is %d; asked is %d", told, err, asked)
	}
	for _, a := range beside {
		if len(a.Nat) != 0 || a.Neg {
			t.Fatalf("%v: beside the error stands %v %x", told, a.Neg, a.Nat)
		}
	}
}

// fine holds that there is no error.
func fine(t *testing.T, told any, err api.Errno) {
	t.Helper()
	refused(t, told, err, api.OK)
}

// checkSums holds Add, Sub, Sum and Cmp of two numbers.
func checkSums(t *testing.T, a, b api.Int) {
	t.Helper()
	x, y := great(a), great(b)
	sum := new(big.Int).Add(x, y)
	whole(t, of{"Add", a, b}, num.Add(a, b), sum)
	whole(t, of{"Sum", a, b}, num.Sum(a, b), sum)
	whole(t, of{"Sub", a, b}, num.Sub(a, b), sum.Sub(x, y))
	is(t, of{"Cmp", a, b}, num.Cmp(a, b), x.Cmp(y))
}

// checkTimes holds Times, its level, and that it spends no more than any product may.
func checkTimes(t *testing.T, e *num.Engine, a, b api.Int) {
	t.Helper()
	now, spent := e.Now(), e.Muls()
	whole(t, of{"Times", a, b}, e.Times(a, b), new(big.Int).Mul(great(a), great(b)))
	is(t, of{"Now behind Times", a, b}, e.Now(), now)
	if spent := e.Muls() - spent; spent > 8*a.Len()*b.Len() {
		t.Fatalf("%v: %d were spent", of{"Times", a, b}, spent)
	}
}

// division is one of the calls that answer a quotient and a remainder.
type division struct {
	name string
	ask  func(a, b api.Int) (q, r api.Int, err api.Errno)
	// rests says whether a remainder may have that sign, where a and b have these.
	rests func(r, a, b int) bool
}

// divisions are the three calls of an engine.
func divisions(e *num.Engine) []division {
	return []division{
		{"Trunc", e.Trunc, func(r, a, b int) bool { return r == 0 || r == a }},
		{"Floor", e.Floor, func(r, a, b int) bool { return r == 0 || r == b }},
		{"Euclid", e.Euclid, func(r, a, b int) bool { return r >= 0 }},
	}
}

// checkDivisions holds Trunc, Floor, Euclid and Even, and their levels; b is not 0. The remainder's sign and size tell what is asked: there is just one such.
func checkDivisions(t *testing.T, e *num.Engine, a, b api.Int) {
	t.Helper()
	x, y := great(a), great(b)
	now := e.Now()
	for _, d := range divisions(e) {
		told := of{d.name, a, b}
		q, r, err := d.ask(a, b)
		fine(t, told, err)
		is(t, told, e.Now(), now)
		rest, quotient := great(r), great(q)
		whole(t, told, r, rest)
		whole(t, told, q, quotient)
		if rest.CmpAbs(y) >= 0 || !d.rests(rest.Sign(), x.Sign(), y.Sign()) {
			t.Fatalf("%v: the remainder is %x", told, rest)
		}
		if back := new(big.Int).Mul(quotient, y); back.Add(back, rest).Cmp(x) != 0 {
			t.Fatalf("%v: %x and %x", told, quotient, rest)
		}
	}
	checkEven(t, e, a, b)
}

// checkEven holds Even, and its level; b is not 0.
func checkEven(t *testing.T, e *num.Engine, a, b api.Int) {
	t.Helper()
	now := e.Now()
	asked, rest := new(big.Int).QuoRem(great(a), great(b), new(big.Int))
	q, err := e.Even(a, b)
	is(t, of{"Now behind Even", a, b}, e.Now(), now)
	if rest.Sign() != 0 {
		refused(t, of{"Even", a, b}, err, api.ErrExact, q)
		return
	}
	fine(t, of{"Even", a, b}, err)
	whole(t, of{"Even", a, b}, q, asked)
}
