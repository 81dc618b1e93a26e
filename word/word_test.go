package word_test

import (
	"math/big"
	"slices"
	"testing"

	"ziggurat/word"
)

const (
	half = uint64(1) << 63
	most = ^uint64(0)
)

// edges are words at which carries, borrows and corrections turn.
var edges = []uint64{0, 1, 2, 3, 1<<32 - 1, 1 << 32, 1<<32 + 1, half - 1, half, half + 1, 3 << 62, most - 1, most}

// divisors are edges with the top bit set.
var divisors = []uint64{half, half + 1, half + 1<<32, 3 << 62, most - 1<<32, most - 1, most}

// naturalOf is the number whose words are these, the highest first.
func naturalOf(words ...uint64) *big.Int {
	n := new(big.Int)
	for _, w := range words {
		n.Lsh(n, 64)
		n.Or(n, new(big.Int).SetUint64(w))
	}
	return n
}

// power is B to the k.
func power(k uint) *big.Int { return new(big.Int).Lsh(big.NewInt(1), 64*k) }

// source is a row of words that is the same in every run; each fourth or so is at an edge.
type source uint64

func (s *source) next() uint64 {
	*s = *s*6364136223846793005 + 1442695040888963407
	x := uint64(*s)
	x ^= x >> 29
	switch x >> 59 {
	case 0, 1:
		return 0
	case 2, 3:
		return most
	case 4:
		return half
	case 5:
		return x & 3
	case 6:
		return most - x&3
	}
	return x * 0x9e3779b97f4a7c15
}

func wantEqual(t *testing.T, got, want *big.Int, call string, args ...uint64) {
	t.Helper()
	if got.Cmp(want) != 0 {
		t.Fatalf("%s%x: got %x, want %x", call, args, got, want)
	}
}

// P1.1

func truth(w uint64) int64 {
	if w != 0 {
		return 1
	}
	return 0
}

func checkAdd(t *testing.T, a, b, carry uint64) {
	t.Helper()
	sum, out := word.Add(a, b, carry)
	want := new(big.Int).Add(naturalOf(a), naturalOf(b))
	want.Add(want, big.NewInt(truth(carry)))
	wantEqual(t, naturalOf(out, sum), want, "Add", a, b, carry)
}

func checkSub(t *testing.T, a, b, borrow uint64) {
	t.Helper()
	diff, out := word.Sub(a, b, borrow)
	if out > 1 {
		t.Fatalf("Sub(%x, %x, %x): out is %x", a, b, borrow, out)
	}
	want := new(big.Int).Sub(naturalOf(a), naturalOf(b))
	want.Sub(want, big.NewInt(truth(borrow)))
	got := new(big.Int).Sub(naturalOf(diff), naturalOf(out, 0))
	wantEqual(t, got, want, "Sub", a, b, borrow)
}

func checkMul(t *testing.T, a, b uint64) {
	t.Helper()
	hi, lo := word.Mul(a, b)
	wantEqual(t, naturalOf(hi, lo), new(big.Int).Mul(naturalOf(a), naturalOf(b)), "Mul", a, b)
}

func TestAddSubMulAtEdges(t *testing.T) {
	for _, a := range edges {
		for _, b := range edges {
			checkMul(t, a, b)
			for _, carry := range edges {
				checkAdd(t, a, b, carry)
				checkSub(t, a, b, carry)
			}
		}
	}
}

func TestAddSubMulAtMany(t *testing.T) {
	s := source(1)
	for range 5000 {
		a, b, carry := s.next(), s.next(), s.next()
		checkAdd(t, a, b, carry)
		checkSub(t, a, b, carry)
		checkMul(t, a, b)
	}
}

func TestAddSubByHand(t *testing.T) {
	rows := []struct{ a, b, carry, sum, sumOut, diff, diffOut uint64 }{
		{5, 3, 0, 8, 0, 2, 0},
		{5, 3, 1, 9, 0, 1, 0},
		{5, 3, 2, 9, 0, 1, 0},
		{5, 3, half, 9, 0, 1, 0},
		{5, 3, most, 9, 0, 1, 0},
		{0, 0, most - 1, 1, 0, most, 1},
		{most, most, 2, most, 1, most, 1},
		{0, most, 4, 0, 1, 0, 1},
		{0, most, 0, most, 0, 1, 1},
		{half, half, 0, 0, 1, 0, 0},
	}
	for _, r := range rows {
		if sum, out := word.Add(r.a, r.b, r.carry); sum != r.sum || out != r.sumOut {
			t.Error("Add", r, sum, out)
		}
		if diff, out := word.Sub(r.a, r.b, r.carry); diff != r.diff || out != r.diffOut {
			t.Error("Sub", r, diff, out)
		}
	}
}

func TestMulByHand(t *testing.T) {
	rows := []struct{ a, b, hi, lo uint64 }{
		{1 << 32, 1 << 32, 1, 0},
		{most, most, most - 1, 1},
		{most, 1, 0, most},
		{half, 2, 1, 0},
		{6, 7, 0, 42},
	}
	for _, r := range rows {
		if hi, lo := word.Mul(r.a, r.b); hi != r.hi || lo != r.lo {
			t.Error(r, hi, lo)
		}
	}
}

// P1.2

// checkQuotient holds what a division of (hi, lo) by d answered against what it must answer.
func checkQuotient(t *testing.T, call string, hi, lo, d, q, r uint64, ok, want bool) {
	t.Helper()
	if ok != want {
		t.Fatalf("%s(%x, %x, %x): %v", call, hi, lo, d, ok)
	}
	if !ok {
		if q != 0 || r != 0 {
			t.Fatalf("%s(%x, %x, %x): %x, %x beside a false", call, hi, lo, d, q, r)
		}
		return
	}
	wantQ, wantR := new(big.Int).QuoRem(naturalOf(hi, lo), naturalOf(d), new(big.Int))
	wantEqual(t, naturalOf(q), wantQ, call+"'s quotient", hi, lo, d)
	wantEqual(t, naturalOf(r), wantR, call+"'s remainder", hi, lo, d)
}

func checkDiv(t *testing.T, hi, lo, d uint64) {
	t.Helper()
	q, r, ok := word.Div(hi, lo, d)
	checkQuotient(t, "Div", hi, lo, d, q, r, ok, hi < d)
}

func checkInverse(t *testing.T, d uint64) uint64 {
	t.Helper()
	v, ok := word.Inverse(d)
	if ok != (d >= half) {
		t.Fatalf("Inverse(%x): %v", d, ok)
	}
	if !ok {
		if v != 0 {
			t.Fatalf("Inverse(%x): %x beside a false", d, v)
		}
		return 0
	}
	want := new(big.Int).Sub(power(2), big.NewInt(1))
	want.Quo(want, naturalOf(d))
	wantEqual(t, naturalOf(v), want.Sub(want, power(1)), "Inverse", d)
	return v
}

func checkDivBy(t *testing.T, hi, lo, d uint64) {
	t.Helper()
	v := checkInverse(t, d)
	q, r, ok := word.DivBy(hi, lo, d, v)
	checkQuotient(t, "DivBy", hi, lo, d, q, r, ok, hi < d && d >= half)
}

func TestDivAtEdges(t *testing.T) {
	for _, d := range slices.Concat(edges, divisors) {
		for _, lo := range slices.Concat(edges, []uint64{d - 1, d, d + 1}) {
			for _, hi := range slices.Concat(edges, []uint64{d - 2, d - 1, d, d + 1, d / 2}) {
				checkDiv(t, hi, lo, d)
				checkDivBy(t, hi, lo, d)
			}
		}
	}
}

func TestDivAtMany(t *testing.T) {
	s := source(2)
	for range 20000 {
		hi, lo, d := s.next(), s.next(), s.next()
		checkDiv(t, hi, lo, d)
		checkDivBy(t, hi, lo, d)
		d |= half
		checkDivBy(t, hi%d, lo, d)
		checkDivBy(t, d-1-hi&3, lo, d)
	}
}

// The guess of DivBy is mended by each of its steps, by both and by none.
func TestDivByMendsItsGuess(t *testing.T) {
	for _, r := range []struct{ hi, lo, d uint64 }{
		{0, 0, half},
		{0, most, half},
		{0, most, most},
		{0, most - 1, most},
		{1, most, half},
		{half - 1, most, half},
		{half, most, half + 1},
		{most - 1, most, most},
		{most - 2, most, most - 1},
		// the remainder of the guess is d itself
		{half, most - 3, half + 2},
		{3 << 61, most - 1, half + 2},
	} {
		checkDivBy(t, r.hi, r.lo, r.d)
	}
}

func TestDivByHand(t *testing.T) {
	rows := []struct {
		hi, lo, d, q, r uint64
		ok              bool
	}{
		{0, 17, 5, 3, 2, true},
		{0, 4, 5, 0, 4, true},
		{4, most, 5, most, 4, true},
		{5, 0, 5, 0, 0, false},
		{6, 0, 5, 0, 0, false},
		{0, 0, 0, 0, 0, false},
		{most, most, 0, 0, 0, false},
		{most, 0, most, 0, 0, false},
		{half - 1, most, half, most, most - half, true},
		{half, 0, half, 0, 0, false},
	}
	for _, r := range rows {
		if q, m, ok := word.Div(r.hi, r.lo, r.d); q != r.q || m != r.r || ok != r.ok {
			t.Error(r, q, m, ok)
		}
	}
}

func TestInverseByHand(t *testing.T) {
	rows := []struct {
		d, v uint64
		ok   bool
	}{
		{half, most, true},
		{half + 1, most - 3, true},
		{most, 1, true},
		{most - 1, 2, true},
		{half - 1, 0, false},
		{1, 0, false},
		{0, 0, false},
	}
	for _, r := range rows {
		if v, ok := word.Inverse(r.d); v != r.v || ok != r.ok {
			t.Error(r, v, ok)
		}
	}
}

// DivBy's refusals do not hang on v, and a wrong v neither ends the program nor makes a refusal.
func TestDivByWithAnyInverse(t *testing.T) {
	for _, v := range edges {
		for _, d := range edges {
			for _, hi := range slices.Concat(edges, []uint64{d - 1, d}) {
				q, r, ok := word.DivBy(hi, 7, d, v)
				if ok != (hi < d && d >= half) {
					t.Fatalf("DivBy(%x, 7, %x, %x): %v", hi, d, v, ok)
				}
				if !ok && (q != 0 || r != 0) {
					t.Fatalf("DivBy(%x, 7, %x, %x): %x, %x beside a false", hi, d, v, q, r)
				}
			}
		}
	}
}

// P1.3

func checkInverse2(t *testing.T, d1, d0 uint64) uint64 {
	t.Helper()
	v, ok := word.Inverse2(d1, d0)
	if ok != (d1 >= half) {
		t.Fatalf("Inverse2(%x, %x): %v", d1, d0, ok)
	}
	if !ok {
		if v != 0 {
			t.Fatalf("Inverse2(%x, %x): %x beside a false", d1, d0, v)
		}
		return 0
	}
	want := new(big.Int).Sub(power(3), big.NewInt(1))
	want.Quo(want, naturalOf(d1, d0))
	wantEqual(t, naturalOf(v), want.Sub(want, power(1)), "Inverse2", d1, d0)
	return v
}

func checkDiv3(t *testing.T, a2, a1, a0, d1, d0, v uint64) {
	t.Helper()
	a, d := naturalOf(a2, a1, a0), naturalOf(d1, d0)
	q, r1, r0, ok := word.Div3(a2, a1, a0, d1, d0, v)
	if want := d1 >= half && naturalOf(a2, a1).Cmp(d) < 0; ok != want {
		t.Fatalf("Div3(%x, %x, %x, %x, %x, %x): %v", a2, a1, a0, d1, d0, v, ok)
	}
	if !ok {
		if q != 0 || r1 != 0 || r0 != 0 {
			t.Fatalf("Div3(%x, %x, %x, %x, %x, %x): %x, %x, %x beside a false", a2, a1, a0, d1, d0, v, q, r1, r0)
		}
		return
	}
	wantQ, wantR := new(big.Int).QuoRem(a, d, new(big.Int))
	wantEqual(t, naturalOf(q), wantQ, "Div3's quotient", a2, a1, a0, d1, d0)
	wantEqual(t, naturalOf(r1, r0), wantR, "Div3's remainder", a2, a1, a0, d1, d0)
}

// checkDiv3Near tries (a2, a1) at, just below and just above (d1, d0), too.
func checkDiv3Near(t *testing.T, a0, d1, d0 uint64) {
	t.Helper()
	v := checkInverse2(t, d1, d0)
	checkDiv3(t, d1, d0, a0, d1, d0, v)
	for k := uint64(1); k <= 3; k++ {
		low, borrow := word.Sub(d0, k, 0)
		checkDiv3(t, d1-borrow, low, a0, d1, d0, v)
		low, carry := word.Add(d0, k, 0)
		checkDiv3(t, d1+carry, low, a0, d1, d0, v)
	}
}

func TestDiv3AtEdges(t *testing.T) {
	for _, d1 := range slices.Concat(divisors, []uint64{0, 1, half - 1}) {
		for _, d0 := range edges {
			v := checkInverse2(t, d1, d0)
			for _, a0 := range edges {
				checkDiv3Near(t, a0, d1, d0)
				for _, a2 := range slices.Concat(edges, []uint64{d1 - 1, d1}) {
					for _, a1 := range edges {
						checkDiv3(t, a2, a1, a0, d1, d0, v)
					}
				}
			}
		}
	}
}

func TestDiv3AtMany(t *testing.T) {
	s := source(3)
	for range 20000 {
		d1, d0, a2, a1, a0 := s.next(), s.next(), s.next(), s.next(), s.next()
		checkDiv3(t, a2, a1, a0, d1, d0, checkInverse2(t, d1, d0))
		d1 |= half
		v := checkInverse2(t, d1, d0)
		checkDiv3(t, a2%d1, a1, a0, d1, d0, v)
		checkDiv3(t, d1, a1, a0, d1, d0, v)
		checkDiv3Near(t, a0, d1, d0)
	}
}

// The remainder that Inverse2 mends by is d1 itself.
func TestInverse2AtEquality(t *testing.T) {
	for _, r := range []struct{ d1, d0 uint64 }{
		{half + 1, half + 5},
		{half + 2, half + 18},
	} {
		v := checkInverse2(t, r.d1, r.d0)
		checkDiv3(t, r.d1, r.d0-1, most, r.d1, r.d0, v)
	}
}

func TestInverse2ByHand(t *testing.T) {
	rows := []struct {
		d1, d0, v uint64
		ok        bool
	}{
		{half, 0, most, true},
		{half, 1, most, true},
		{half, most, most - 3, true},
		{most, most, 0, true},
		{most, 0, 1, true},
		{half - 1, most, 0, false},
		{0, 0, 0, false},
		{0, most, 0, false},
	}
	for _, r := range rows {
		if v, ok := word.Inverse2(r.d1, r.d0); v != r.v || ok != r.ok {
			t.Error(r, v, ok)
		}
	}
}

func TestDiv3WithAnyInverse(t *testing.T) {
	for _, v := range edges {
		for _, d1 := range edges {
			for _, a2 := range edges {
				q, r1, r0, ok := word.Div3(a2, 5, 9, d1, 7, v)
				if ok != (d1 >= half && a2 <= d1) {
					t.Fatalf("Div3(%x, 5, 9, %x, 7, %x): %v", a2, d1, v, ok)
				}
				if !ok && (q != 0 || r1 != 0 || r0 != 0) {
					t.Fatalf("Div3(%x, 5, 9, %x, 7, %x): %x, %x, %x beside a false", a2, d1, v, q, r1, r0)
				}
			}
		}
	}
}

// P1.4

func checkSum(t *testing.T, l ...uint64) {
	t.Helper()
	hi, lo := word.Sum(l...)
	want := new(big.Int)
	for _, w := range l {
		want.Add(want, naturalOf(w))
	}
	wantEqual(t, naturalOf(hi, lo), want.Mod(want, power(2)), "Sum", l...)
}

func checkDot(t *testing.T, a, b []uint64) {
	t.Helper()
	w2, w1, w0 := word.Dot(a, b)
	want := new(big.Int)
	for i := range min(len(a), len(b)) {
		want.Add(want, new(big.Int).Mul(naturalOf(a[i]), naturalOf(b[i])))
	}
	wantEqual(t, naturalOf(w2, w1, w0), want.Mod(want, power(3)), "Dot", slices.Concat(a, b)...)
}

func row(s *source, n int) []uint64 {
	l := make([]uint64, n)
	for i := range l {
		l[i] = s.next()
	}
	return l
}

func TestSum(t *testing.T) {
	checkSum(t)
	checkSum(t, []uint64{}...)
	checkSum(t, most)
	checkSum(t, most, 1)
	checkSum(t, 1, most)
	checkSum(t, edges...)
	checkSum(t, slices.Repeat([]uint64{most}, 1000)...)
	s := source(4)
	for n := range 200 {
		checkSum(t, row(&s, n)...)
	}
}

func TestDot(t *testing.T) {
	s := source(5)
	for n := range 40 {
		for m := range 40 {
			checkDot(t, row(&s, n), row(&s, m))
		}
	}
	greatest := slices.Repeat([]uint64{most}, 1000)
	for n := range 8 {
		checkDot(t, greatest[:n], greatest[:n])
		checkDot(t, greatest[:n], greatest)
		checkDot(t, greatest, greatest[:n])
	}
	checkDot(t, greatest, greatest)
	checkDot(t, edges, divisors)
	checkDot(t, divisors, edges)
	checkDot(t, nil, edges)
	checkDot(t, edges, nil)
	checkDot(t, []uint64{}, edges)
	checkDot(t, nil, nil)
}

func TestDotByHand(t *testing.T) {
	rows := []struct {
		a, b       []uint64
		w2, w1, w0 uint64
	}{
		{nil, nil, 0, 0, 0},
		{[]uint64{9}, nil, 0, 0, 0},
		{[]uint64{}, []uint64{9}, 0, 0, 0},
		{[]uint64{2, 3}, []uint64{5, 7, most}, 0, 0, 31},
		{[]uint64{2, 3, most}, []uint64{5, 7}, 0, 0, 31},
		{[]uint64{most, most}, []uint64{most, most}, 1, most - 3, 2},
		{[]uint64{most, 1}, []uint64{most, most}, 0, most, 0},
	}
	for _, r := range rows {
		if w2, w1, w0 := word.Dot(r.a, r.b); w2 != r.w2 || w1 != r.w1 || w0 != r.w0 {
			t.Error(r, w2, w1, w0)
		}
	}
}

// R4: what is handed in is not changed, and what lies behind its length is neither read nor written.
func TestRowsAreLeftAlone(t *testing.T) {
	room := slices.Clone(edges)
	a, b := room[:3], room[4:7]
	hi, lo := word.Sum(a...)
	w2, w1, w0 := word.Dot(a, b)
	if !slices.Equal(room, edges) {
		t.Error("changed:", room)
	}
	for i := range room {
		if i >= 3 && i < 4 || i >= 7 {
			room[i] = ^room[i]
		}
	}
	if h, l := word.Sum(a...); h != hi || l != lo {
		t.Error("Sum reads behind the length")
	}
	if x2, x1, x0 := word.Dot(a, b); x2 != w2 || x1 != w1 || x0 != w0 {
		t.Error("Dot reads behind the length")
	}
}
