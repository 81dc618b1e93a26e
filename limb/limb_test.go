package limb_test

import (
	"encoding/binary"
	"math"
	"math/big"
	"slices"
	"testing"

	"ziggurat/api"
	"ziggurat/limb"
)

const (
	half = uint64(1) << 63
	most = ^uint64(0)
)

// edges are words at which carries, borrows and corrections turn.
var edges = []uint64{0, 1, 2, 3, 10, 1<<32 - 1, 1 << 32, 1<<32 + 1, half - 1, half, half + 1, most - 1, most}

// counts are places and numbers of words, those that may not be among them.
var counts = []int{math.MinInt, -1 << 40, -64, -1, 0, 1, 2, 31, 32, 62, 63, 64, 65, 66, 127, 128, 129, 191, 192, 193, 256, 400, 1 << 14, 1<<14 + 1, 1<<20 - 1, 1 << 20, 1<<20 + 1, 1 << 40, math.MaxInt}

// source is a row of words that is the same in every run; each fourth or so is at an edge.
type source uint64

func (s *source) next() uint64 {
	*s = *s*6364136223846793005 + 1442695040888963407
	x := uint64(*s)
	x ^= x >> 29
	switch x >> 59 {
	case 0, 1:
		return 0
	case 2, 3:
		return most
	case 4:
		return half
	case 5:
		return x & 3
	case 6:
		return most - x&3
	}
	return x * 0x9e3779b97f4a7c15
}

func (s *source) row(n int) api.Nat {
	a := make(api.Nat, n)
	for i := range a {
		a[i] = s.next()
	}
	return a
}

// samples are rows of all kinds: none, noughts, noughts on top and below, ones alone, words at the edges, and many.
func samples() []api.Nat {
	list := []api.Nat{
		nil, {}, {0}, {0, 0, 0},
		{1}, {1, 0}, {0, 1}, {0, 0, 1}, {0, 0, 1, 0, 0},
		{5, 7}, {7, 5}, {5, 7, 0}, {3, 0, 4}, {2, 0, 4},
		{most}, {most, most}, {most, most, most, 0}, {most, 0, most}, {0, most, 0}, {most - 1, most},
		{half}, {0, half}, {half, half - 1},
	}
	s := source(7)
	for n := 1; n < 9; n++ {
		list = append(list, s.row(n), append(s.row(n), 0, 0))
	}
	return list
}

// bigOf is the number that the row says.
func bigOf(a api.Nat) *big.Int {
	bytes := make([]byte, 0, 8*len(a))
	for _, w := range slices.Backward(a) {
		bytes = binary.BigEndian.AppendUint64(bytes, w)
	}
	return new(big.Int).SetBytes(bytes)
}

func bigWord(w uint64) *big.Int { return new(big.Int).SetUint64(w) }

// twoTo is 2 to the n.
func twoTo(n int) *big.Int { return new(big.Int).Lsh(big.NewInt(1), uint(n)) }

// cut is n, neither below 0 nor above top.
func cut(n, top int) int {
	switch {
	case n < 0:
		return 0
	case n > top:
		return top
	}
	return n
}

// wantNat holds an answer against the number that it must be: it has no zero words on top.
func wantNat(t *testing.T, got api.Nat, want *big.Int, call string, args ...any) {
	t.Helper()
	if len(got) > 0 && got[len(got)-1] == 0 {
		t.Fatalf("%s%v: noughts on top: %v", call, args, got)
	}
	if bigOf(got).Cmp(want) != 0 {
		t.Fatalf("%s%v: got %v, want %x", call, args, got, want)
	}
}

// wantDifference holds an answer that may be refused against the number that it must be.
func wantDifference(t *testing.T, got api.Nat, ok bool, want *big.Int, call string, args ...any) {
	t.Helper()
	if ok != (want.Sign() >= 0) {
		t.Fatalf("%s%v: %v", call, args, ok)
	}
	if !ok {
		if len(got) != 0 {
			t.Fatalf("%s%v: %v beside a false", call, args, got)
		}
		return
	}
	wantNat(t, got, want, call, args...)
}

// P2.1

func checkPair(t *testing.T, a, b api.Nat) {
	t.Helper()
	x, y := bigOf(a), bigOf(b)
	if got := limb.Cmp(a, b); got != x.Cmp(y) {
		t.Fatalf("Cmp(%v, %v): %v", a, b, got)
	}
	wantNat(t, limb.Add(a, b), new(big.Int).Add(x, y), "Add", a, b)
	got, ok := limb.Sub(a, b)
	wantDifference(t, got, ok, new(big.Int).Sub(x, y), "Sub", a, b)
}

func checkSum(t *testing.T, l ...api.Nat) {
	t.Helper()
	want := new(big.Int)
	for _, a := range l {
		want.Add(want, bigOf(a))
	}
	wantNat(t, limb.Sum(l...), want, "Sum", l)
}

func TestNorm(t *testing.T) {
	for _, a := range samples() {
		wantNat(t, limb.Norm(a), bigOf(a), "Norm", a)
	}
}

func TestOne(t *testing.T) {
	for _, w := range edges {
		wantNat(t, limb.One(w), bigWord(w), "One", w)
	}
}

func TestPairs(t *testing.T) {
	for _, a := range samples() {
		for _, b := range samples() {
			checkPair(t, a, b)
		}
	}
}

func TestPairsOfManyWords(t *testing.T) {
	s := source(1)
	for n := range 25 {
		for m := range 25 {
			checkPair(t, s.row(n), s.row(m))
		}
	}
}

// A carry and a borrow run through a whole row, and a difference that is below 0 by the least shows at the top alone.
func TestLongCarries(t *testing.T) {
	for n := range 20 {
		ones := slices.Repeat(api.Nat{most}, n)
		power := append(make(api.Nat, n), 1)
		for _, b := range []api.Nat{{1}, {1, 0}, {most}, ones, power, append(api.Nat{1}, power...)} {
			checkPair(t, ones, b)
			checkPair(t, power, b)
			checkPair(t, append(slices.Clone(power), 0), b)
		}
	}
}

// Rows that differ in one word alone are told apart wherever it stands.
func TestCmpAtEachWord(t *testing.T) {
	for n := range 12 {
		for i := range n {
			a := slices.Repeat(api.Nat{half}, n)
			b := slices.Clone(a)
			for _, d := range []uint64{1, half - 1} {
				b[i] = half + d
				checkPair(t, a, b)
				checkPair(t, b, a)
				b[i] = half - d
				checkPair(t, a, b)
				checkPair(t, b, a)
			}
		}
	}
}

func TestSubByHand(t *testing.T) {
	for _, r := range []struct {
		a, b, want api.Nat
		ok         bool
	}{
		{nil, api.Nat{1}, nil, false},
		{nil, nil, nil, true},
		{nil, api.Nat{0, 0}, nil, true},
		{api.Nat{7, 3, 0}, api.Nat{7, 3}, nil, true},
		{api.Nat{7, 3}, api.Nat{7, 3, 0, 0, 0}, nil, true},
		{api.Nat{0, 0, 1}, api.Nat{1}, api.Nat{most, most}, true},
		{api.Nat{0, 1}, api.Nat{1, 1}, nil, false},
		{api.Nat{most, most}, api.Nat{0, 0, 1}, nil, false},
	} {
		if got, ok := limb.Sub(r.a, r.b); ok != r.ok || !slices.Equal(got, r.want) {
			t.Error(r, got, ok)
		}
	}
}

func TestSum(t *testing.T) {
	checkSum(t)
	checkSum(t, []api.Nat{}...)
	checkSum(t, nil)
	checkSum(t, nil, nil, api.Nat{0})
	checkSum(t, samples()...)
	checkSum(t, slices.Repeat([]api.Nat{{most}}, 1000)...)
	checkSum(t, slices.Repeat([]api.Nat{{most, most, 0}, nil, {most}}, 1000)...)
	s := source(2)
	for n := range 40 {
		l := make([]api.Nat, n)
		for i := range l {
			l[i] = s.row(int(s.next() % 7))
		}
		checkSum(t, l...)
	}
}

// P2.2

func checkShifts(t *testing.T, a api.Nat, n int) {
	t.Helper()
	x, p := bigOf(a), twoTo(cut(n, 1<<20))
	wantNat(t, limb.Shl(a, n), new(big.Int).Mul(x, p), "Shl", len(a), n)
	wantNat(t, limb.Shr(a, n), new(big.Int).Quo(x, p), "Shr", len(a), n)
	wantNat(t, limb.Low(a, n), new(big.Int).Rem(x, p), "Low", len(a), n)
}

func TestShifts(t *testing.T) {
	for _, a := range samples() {
		for _, n := range counts {
			checkShifts(t, a, n)
		}
	}
}

func TestShiftsByEachPlace(t *testing.T) {
	s := source(3)
	for n := -3; n < 330; n++ {
		checkShifts(t, s.row(5), n)
		checkShifts(t, slices.Repeat(api.Nat{most}, 4), n)
		checkShifts(t, append(s.row(3), 0, 0), n)
	}
}

// A row that is longer than MaxCount places shows where n is cut.
func TestShiftsAtTheMost(t *testing.T) {
	a := slices.Repeat(api.Nat{most}, 2*api.MaxWords)
	for _, n := range []int{-1, 0, api.MaxCount - 1, api.MaxCount, api.MaxCount + 1, api.MaxCount + 64, math.MaxInt} {
		checkShifts(t, a, n)
	}
	for _, n := range []int{api.MaxCount, api.MaxCount + 1, math.MaxInt} {
		if got := limb.Shl(api.Nat{1}, n).Bits(); got != api.MaxCount+1 {
			t.Error("Shl", n, got)
		}
		if got := limb.Low(a, n).Bits(); got != api.MaxCount {
			t.Error("Low", n, got)
		}
		if got := limb.Shr(a, n).Len(); got != api.MaxWords {
			t.Error("Shr", n, got)
		}
	}
}

func TestShiftsByHand(t *testing.T) {
	a := api.Nat{most, 5, 0}
	for _, r := range []struct {
		n             int
		shl, shr, low api.Nat
	}{
		{math.MinInt, api.Nat{most, 5}, api.Nat{most, 5}, nil},
		{-1, api.Nat{most, 5}, api.Nat{most, 5}, nil},
		{0, api.Nat{most, 5}, api.Nat{most, 5}, nil},
		{1, api.Nat{most - 1, 11}, api.Nat{most, 2}, api.Nat{1}},
		{64, api.Nat{0, most, 5}, api.Nat{5}, api.Nat{most}},
		{65, api.Nat{0, most - 1, 11}, api.Nat{2}, api.Nat{most, 1}},
		{67, api.Nat{0, most - 7, 47}, nil, api.Nat{most, 5}},
	} {
		if got := limb.Shl(a, r.n); !slices.Equal(got, r.shl) {
			t.Error("Shl", r.n, got)
		}
		if got := limb.Shr(a, r.n); !slices.Equal(got, r.shr) {
			t.Error("Shr", r.n, got)
		}
		if got := limb.Low(a, r.n); !slices.Equal(got, r.low) {
			t.Error("Low", r.n, got)
		}
	}
}

// P2.3

func checkTimesWord(t *testing.T, a, b api.Nat, w uint64) {
	t.Helper()
	product := new(big.Int).Mul(bigOf(b), bigWord(w))
	wantNat(t, limb.MulWord(b, w), product, "MulWord", b, w)
	wantNat(t, limb.AddMul(a, b, w), new(big.Int).Add(bigOf(a), product), "AddMul", a, b, w)
	got, ok := limb.SubMul(a, b, w)
	wantDifference(t, got, ok, new(big.Int).Sub(bigOf(a), product), "SubMul", a, b, w)
}

// checkSubMulNear asks for differences that are 0, and as near to it as can be.
func checkSubMulNear(t *testing.T, b api.Nat, w uint64) {
	t.Helper()
	a := limb.MulWord(b, w)
	checkTimesWord(t, a, b, w)
	checkTimesWord(t, limb.Add(a, api.Nat{1}), b, w)
	checkTimesWord(t, append(slices.Clone(a), 0, 0), b, w)
	if less, ok := limb.Sub(a, api.Nat{1}); ok {
		checkTimesWord(t, less, b, w)
	}
}

func checkDivWord(t *testing.T, a api.Nat, w uint64) {
	t.Helper()
	q, r, e := limb.DivWord(a, w)
	if w == 0 {
		if e != api.ErrZero || len(q) != 0 || r != 0 {
			t.Fatalf("DivWord(%v, 0): %v, %v, %v", a, q, r, e)
		}
		return
	}
	if e != api.OK {
		t.Fatalf("DivWord(%v, %v): error %v", a, w, e)
	}
	wantQ, wantR := new(big.Int).QuoRem(bigOf(a), bigWord(w), new(big.Int))
	wantNat(t, q, wantQ, "DivWord's quotient", a, w)
	if bigWord(r).Cmp(wantR) != 0 {
		t.Fatalf("DivWord(%v, %v): remainder %v, want %v", a, w, r, wantR)
	}
}

func TestTimesWord(t *testing.T) {
	for _, b := range samples() {
		for _, w := range edges {
			checkSubMulNear(t, b, w)
			for _, a := range samples() {
				checkTimesWord(t, a, b, w)
			}
		}
	}
}

func TestTimesWordOfManyWords(t *testing.T) {
	s := source(4)
	for n := range 20 {
		for m := range 20 {
			checkTimesWord(t, s.row(n), s.row(m), s.next())
		}
		checkSubMulNear(t, s.row(n), s.next())
		checkTimesWord(t, slices.Repeat(api.Nat{most}, n+1), slices.Repeat(api.Nat{most}, n), most)
		checkTimesWord(t, slices.Repeat(api.Nat{most}, n+3), slices.Repeat(api.Nat{most}, n), most)
	}
}

// A borrow above b's own words runs on to the top.
func TestSubMulBorrowsFarAbove(t *testing.T) {
	for n := range 10 {
		a := append(make(api.Nat, n), 1)
		for _, b := range []api.Nat{{1}, {most}, {most, most}, {0, 1, 0}} {
			for _, w := range edges {
				checkTimesWord(t, a, b, w)
			}
		}
	}
}

func TestDivWord(t *testing.T) {
	s := source(5)
	for _, w := range edges {
		for _, a := range samples() {
			checkDivWord(t, a, w)
		}
		for n := range 20 {
			checkDivWord(t, s.row(n), w)
			checkDivWord(t, s.row(n), s.next())
			checkDivWord(t, limb.MulWord(s.row(n), w), w)
		}
	}
}

func TestWordsByHand(t *testing.T) {
	if got := limb.MulWord(api.Nat{most, most}, most); !slices.Equal(got, api.Nat{1, most, most - 1}) {
		t.Error("MulWord", got)
	}
	if got := limb.AddMul(api.Nat{most, most, most}, api.Nat{most}, most); !slices.Equal(got, api.Nat{0, most - 1, 0, 1}) {
		t.Error("AddMul", got)
	}
	if got, ok := limb.SubMul(api.Nat{11, 15}, api.Nat{2, 3}, 5); !ok || !slices.Equal(got, api.Nat{1}) {
		t.Error("SubMul", got, ok)
	}
	if got, ok := limb.SubMul(api.Nat{9, 15}, api.Nat{2, 3}, 5); ok || len(got) != 0 {
		t.Error("SubMul", got, ok)
	}
	if got, ok := limb.SubMul(api.Nat{9}, api.Nat{2, 3, 4}, 0); !ok || !slices.Equal(got, api.Nat{9}) {
		t.Error("SubMul by 0", got, ok)
	}
	if q, r, e := limb.DivWord(api.Nat{5, 7, 0}, 7); e != api.OK || !slices.Equal(q, api.Nat{0, 1}) || r != 5 {
		t.Error("DivWord", q, r, e)
	}
	if q, r, e := limb.DivWord(nil, 0); e != api.ErrZero || len(q) != 0 || r != 0 {
		t.Error("DivWord of 0 by 0", q, r, e)
	}
}

// P2.4

func checkSplit(t *testing.T, a api.Nat, k int) {
	t.Helper()
	p := twoTo(64 * cut(k, 1<<14))
	lo, hi := limb.Split(a, k)
	wantHi, wantLo := new(big.Int).QuoRem(bigOf(a), p, new(big.Int))
	wantNat(t, lo, wantLo, "Split's lo", len(a), k)
	wantNat(t, hi, wantHi, "Split's hi", len(a), k)
}

func checkJoin(t *testing.T, k int, parts ...api.Nat) {
	t.Helper()
	want := new(big.Int)
	for _, a := range slices.Backward(parts) {
		want.Lsh(want, uint(64*cut(k, 1<<14)))
		want.Add(want, bigOf(a))
	}
	wantNat(t, limb.Join(k, parts...), want, "Join", k, len(parts))
}

func TestSplit(t *testing.T) {
	for _, a := range samples() {
		for _, k := range slices.Concat(counts, []int{3, 4, 5, 6, 7, 8, 9, 10, 11}) {
			checkSplit(t, a, k)
			lo, hi := limb.Split(a, k)
			checkJoin(t, k, lo, hi)
		}
	}
}

// A row that is longer than MaxWords shows where k is cut.
func TestSplitAtTheMost(t *testing.T) {
	a := slices.Repeat(api.Nat{most}, 2*api.MaxWords)
	for _, k := range []int{api.MaxWords - 1, api.MaxWords, api.MaxWords + 1, math.MaxInt} {
		checkSplit(t, a, k)
	}
	if lo, hi := limb.Split(a, math.MaxInt); len(lo) != api.MaxWords || len(hi) != api.MaxWords {
		t.Error(len(lo), len(hi))
	}
}

func TestJoin(t *testing.T) {
	s := source(6)
	for _, k := range []int{math.MinInt, -7, -1, 0, 1, 2, 3, 4, 5, 9, 100} {
		checkJoin(t, k)
		checkJoin(t, k, nil)
		checkJoin(t, k, nil, nil, api.Nat{0, 0})
		checkJoin(t, k, samples()...)
		for n := range 12 {
			parts := make([]api.Nat, n)
			for i := range parts {
				parts[i] = s.row(int(s.next() % 9))
			}
			checkJoin(t, k, parts...)
			checkJoin(t, k, slices.Repeat([]api.Nat{{most, most, most}}, n)...)
			checkJoin(t, k, append(parts, nil, api.Nat{0, 0, 0, 0, 0, 0, 0})...)
		}
	}
}

// Parts that overlap carry into each other, and a part far below may reach beyond the last one.
func TestJoinOverlaps(t *testing.T) {
	long := slices.Repeat(api.Nat{most}, 12)
	for k := range 14 {
		checkJoin(t, k, long, api.Nat{1})
		checkJoin(t, k, long, long, long)
		checkJoin(t, k, long, nil, api.Nat{most, 0})
		checkJoin(t, k, api.Nat{1}, long)
		checkJoin(t, k, long, long, long, api.Nat{0, 0}, nil)
	}
}

func TestJoinAtTheMost(t *testing.T) {
	for _, k := range []int{api.MaxWords - 1, api.MaxWords, api.MaxWords + 1, math.MaxInt} {
		checkJoin(t, k, api.Nat{5}, api.Nat{7}, api.Nat{9, 1})
		checkJoin(t, k, nil, nil, api.Nat{1})
	}
	// Many parts that are 0 ask for no room.
	parts := make([]api.Nat, api.MaxTerms)
	parts[1] = api.Nat{3}
	checkJoin(t, math.MaxInt, parts...)
}

func TestJoinByHand(t *testing.T) {
	for _, r := range []struct {
		k     int
		parts []api.Nat
		want  api.Nat
	}{
		{1, []api.Nat{{5}, {7}}, api.Nat{5, 7}},
		{2, []api.Nat{{5}, {7}}, api.Nat{5, 0, 7}},
		{0, []api.Nat{{5}, {6}}, api.Nat{11}},
		{-7, []api.Nat{{5}, {6}}, api.Nat{11}},
		{3, nil, nil},
		{1, []api.Nat{{most, most, most}, {1}, nil, {5}, {0, 0}}, api.Nat{most, 0, 0, 6}},
	} {
		if got := limb.Join(r.k, r.parts...); !slices.Equal(got, r.want) {
			t.Error(r, got)
		}
	}
}

// R4

// answers calls every function on the same rows, and gathers the naturals that they hand out.
func answers(a, b api.Nat, n int, w uint64) []api.Nat {
	difference, _ := limb.Sub(a, b)
	rest, _ := limb.SubMul(a, b, w)
	quotient, _, _ := limb.DivWord(a, w)
	lo, hi := limb.Split(a, n)
	return []api.Nat{
		limb.Norm(a), limb.Add(a, b), difference, limb.One(w), limb.Sum(a, b, a), limb.Sum(a),
		limb.Shl(a, n), limb.Shr(a, n), limb.Low(a, n),
		limb.MulWord(a, w), limb.AddMul(a, b, w), rest, quotient,
		lo, hi, limb.Join(n, a, b, a), limb.Join(n, a),
		{uint64(limb.Cmp(a, b) + 1)},
	}
}

func cloneAll(l []api.Nat) []api.Nat {
	out := make([]api.Nat, len(l))
	for i, a := range l {
		out[i] = slices.Clone(a)
	}
	return out
}

// behind is a row with words behind its length.
func behind(a api.Nat, w uint64) api.Nat {
	return append(slices.Clone(a), w, w, w, w, w, w, w, w)[: len(a) : len(a)+8]
}

func checkMemory(t *testing.T, a, b api.Nat, n int, w uint64) {
	t.Helper()
	x, y := behind(a, most), behind(b, most)
	wholeX, wholeY := slices.Clone(x[:cap(x)]), slices.Clone(y[:cap(y)])
	out := answers(x, y, n, w)
	said := cloneAll(out)
	for i, row := range answers(behind(a, 0), behind(b, 0), n, w) {
		if !slices.Equal(row, out[i]) {
			t.Fatalf("answer %d of %v, %v, %d, %d hangs on what lies behind a row", i, a, b, n, w)
		}
	}
	for i, row := range out {
		// All memory of one answer is written over: neither another one nor what was handed in may show it.
		for j := range row[:cap(row)] {
			row[:cap(row)][j] = 77
		}
		for j := i + 1; j < len(out); j++ {
			if !slices.Equal(out[j], said[j]) {
				t.Fatalf("answers %d and %d of %v, %v, %d, %d share memory", i, j, a, b, n, w)
			}
		}
		if !slices.Equal(x[:cap(x)], wholeX) || !slices.Equal(y[:cap(y)], wholeY) {
			t.Fatalf("answer %d of %v, %v, %d, %d: what was handed in has changed", i, a, b, n, w)
		}
	}
}

func TestMemory(t *testing.T) {
	for _, a := range samples() {
		for _, b := range samples() {
			for _, n := range []int{-1, 0, 1, 2, 64, 70} {
				for _, w := range []uint64{0, 1, 3, most} {
					checkMemory(t, a, b, n, w)
				}
			}
		}
	}
}

// The list of a variadic call is left alone, behind its length too.
func TestListsAreLeftAlone(t *testing.T) {
	room := samples()
	want := cloneAll(room)
	list := room[5:9]
	first := limb.Join(2, list...)
	sum := limb.Sum(list...)
	for i := range room {
		if !slices.Equal(room[i], want[i]) {
			t.Fatal("changed", i)
		}
	}
	for i := range room {
		if i < 5 || i >= 9 {
			room[i] = api.Nat{most, most, most, most}
		}
	}
	if !slices.Equal(limb.Join(2, list...), first) || !slices.Equal(limb.Sum(list...), sum) {
		t.Error("a call reads behind its list")
	}
}

// The same row may stand on both sides.
func TestOneRowTwice(t *testing.T) {
	for _, a := range samples() {
		checkPair(t, a, a)
		checkSum(t, a, a, a)
		checkJoin(t, 1, a, a, a)
		for _, w := range edges {
			checkTimesWord(t, a, a, w)
		}
	}
}

// Rows as long as may be handed in.
func TestLongestRows(t *testing.T) {
	s := source(8)
	a, b := s.row(api.MaxWords), s.row(api.MaxWords)
	checkPair(t, a, b)
	checkTimesWord(t, a, b, most)
	checkDivWord(t, a, 10)
	checkSplit(t, a, api.MaxWords/2)
	checkJoin(t, api.MaxWords/2, a, b, a)
}
