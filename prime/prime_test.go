package prime_test

import (
	"math"
	"math/big"
	"math/bits"
	"slices"
	"testing"

	"ziggurat/api"
	"ziggurat/modw"
	"ziggurat/prime"
)

const (
	most = ^uint64(0)

	// The greatest primes below 2 to the 32, 62, 63 and 64, and the least above the first three.
	below32 = uint64(1)<<32 - 5
	above32 = uint64(1)<<32 + 15
	below62 = uint64(1)<<62 - 57
	above62 = uint64(1)<<62 + 135
	below63 = uint64(1)<<63 - 25
	above63 = uint64(1)<<63 + 29
	below64 = most - 58
)

// source is a row of words that is the same in every run.
type source uint64

func (s *source) next() uint64 {
	*s = *s*6364136223846793005 + 1442695040888963407
	x := uint64(*s)
	return (x ^ x>>29) * 0x9e3779b97f4a7c15
}

// sized is the next word, cut to at most some number of binary digits from 1 to 64, each as often.
func (s *source) sized() uint64 { return s.next() >> (s.next() >> 58) }

func bigOf(a uint64) *big.Int { return new(big.Int).SetUint64(a) }

// byDivisors tries all divisors.
func byDivisors(n uint64) bool {
	for d := uint64(2); d*d <= n; d++ {
		if n%d == 0 {
			return false
		}
	}
	return n > 1
}

// byBig asks package big, whose test of Baillie and Pomerance is without a fault for each word.
func byBig(n uint64) bool { return bigOf(n).ProbablyPrime(0) }

// after and ahead are the neighbouring primes by package big.
func after(n uint64) uint64 {
	for n++; !byBig(n); n++ {
	}
	return n
}

func ahead(n uint64) uint64 {
	for n--; !byBig(n); n-- {
	}
	return n
}

// powerOf is a to the k modulo p, by package big.
func powerOf(a, k, p uint64) uint64 {
	return new(big.Int).Exp(bigOf(a), bigOf(k), bigOf(p)).Uint64()
}

// P7.1: Is

func is(t *testing.T, n uint64, asked bool) {
	t.Helper()
	if got := prime.Is(n); got != asked {
		t.Errorf("Is(%d): got %v", n, got)
	}
}

func TestIsExamples(t *testing.T) {
	is(t, 2, true)
	is(t, 3215031751, false)
}

func TestIsSmall(t *testing.T) {
	count := 0
	for n := range uint64(40000) {
		asked := byDivisors(n)
		is(t, n, asked)
		if asked {
			count++
		}
	}
	if count != 4203 {
		t.Error("primes below 40000:", count)
	}
}

func TestIsLeast(t *testing.T) {
	for n, asked := range []bool{false, false, true, true, false, true, false, true, false, false, false, true} {
		is(t, uint64(n), asked)
	}
}

func TestIsEven(t *testing.T) {
	s := source(71)
	for k := range 64 {
		is(t, 1<<k, k == 1)
		is(t, most<<k, false)
	}
	for range 1000 {
		n := s.sized() &^ 1
		is(t, n, n == 2)
	}
	for n := most - 1; n > most-1000; n -= 2 {
		is(t, n, false)
	}
	for _, p := range []uint64{3, 41, 65537, below32, below62, 1<<63 - 25} {
		is(t, 2*p, false)
	}
}

// primesOfSize are the least and the greatest prime of so many binary digits, and one between.
func primesOfSize(size int) []uint64 {
	least := uint64(1) << (size - 1)
	middle := least + least/2 - 1
	greatest := below64
	if size < 64 {
		greatest = ahead(2 * least)
	}
	return []uint64{after(least - 1), after(middle - middle/9), greatest}
}

func TestIsOfEverySize(t *testing.T) {
	for size := 2; size <= 64; size++ {
		for _, p := range primesOfSize(size) {
			is(t, p, true)
		}
	}
}

func TestIsSquares(t *testing.T) {
	for size := 2; size <= 32; size++ {
		for _, p := range primesOfSize(size) {
			is(t, p*p, false)
		}
	}
	for p := uint64(2); p < 2000; p++ {
		is(t, p*p, false)
		is(t, p*p*p, false)
	}
	// Squares of the two primes 1093 and 3511 answer the base 2 as primes do (Wieferich), also by Miller's test.
	is(t, 1093*1093, false)
	is(t, 3511*3511, false)
	is(t, below32*below32, false)
	is(t, 2642239*2642239*2642239, false) // the greatest prime whose cube is a word
	is(t, 65521*65521*65521*65521, false)
}

func TestIsProducts(t *testing.T) {
	var list []uint64
	for size := 2; size <= 63; size++ {
		list = append(list, primesOfSize(size)...)
	}
	for i, p := range list {
		for _, q := range list[i:] {
			if hi, n := bits.Mul64(p, q); hi == 0 {
				is(t, n, false)
			}
		}
	}
}

// The greatest words that are products of two primes, one of them of each size.
func TestIsGreatestProducts(t *testing.T) {
	for size := 2; size <= 32; size++ {
		for _, p := range primesOfSize(size) {
			for q, k := ahead(most/p+1), 0; k < 4; q, k = ahead(q), k+1 {
				is(t, p*q, false)
			}
		}
	}
	is(t, most, false)
}

func TestIsAtEdges(t *testing.T) {
	for _, p := range []uint64{below32, above32, below62, above62, below63, above63, below64} {
		is(t, p, true)
		for d := uint64(1); d <= 200; d++ {
			is(t, p-d, byBig(p-d))
			if p+d > p {
				is(t, p+d, byBig(p+d))
			}
		}
	}
	for n := below64 + 1; n != 0; n++ {
		is(t, n, false)
	}
	for n := below62 + 1; n < above62; n++ {
		is(t, n, false)
	}
	for n := below63 + 1; n < above63; n++ {
		is(t, n, false)
	}
	for n := below32 + 1; n < above32; n++ {
		is(t, n, false)
	}
}

func TestIsAtPowersOfTwo(t *testing.T) {
	for size := 10; size < 64; size++ {
		middle := uint64(1) << size
		for n := middle - 101; n <= middle+101; n += 2 {
			is(t, n, byBig(n))
		}
	}
}

// smallDivisor says whether a number from 2 to 40 divides n.
func smallDivisor(n uint64) bool {
	for d := uint64(2); d <= 40; d++ {
		if n%d == 0 {
			return true
		}
	}
	return false
}

func TestIsMany(t *testing.T) {
	s := source(72)
	for range 20000 {
		n := s.sized() | 1
		is(t, n, byBig(n))
	}
	for range 3000 { // without small divisors, so that each is told by its powers
		n := s.next() >> (s.next() >> 61)
		for smallDivisor(n) {
			n--
		}
		is(t, n, byBig(n))
	}
}

// strong says whether n answers the base b as a prime does, by package big.
func strong(n, b uint64) bool {
	twos := bits.TrailingZeros64(n - 1)
	x := powerOf(b, (n-1)>>twos, n)
	if x == 1 || x == n-1 {
		return true
	}
	for range twos - 1 {
		if x = powerOf(x, 2, n); x == n-1 {
			return true
		}
	}
	return false
}

// liars are numbers that are no primes, their divisors, and bases that they answer as primes do.
var liars = []struct {
	n        uint64
	divisors []uint64
	bases    []uint64
}{
	{2047, []uint64{23, 89}, []uint64{2}},
	{1373653, []uint64{829, 1657}, []uint64{2, 3}},
	{25326001, []uint64{2251, 11251}, []uint64{2, 3, 5}},
	{3215031751, []uint64{151, 751, 28351}, []uint64{2, 3, 5, 7}},
	{4759123141, []uint64{48781, 97561}, []uint64{2, 7, 61}},
	{1<<32 + 1, []uint64{641, 6700417}, []uint64{2}},
	{2152302898747, []uint64{6763, 10627, 29947}, []uint64{2, 3, 5, 7, 11}},
	{3474749660383, []uint64{1303, 16927, 157543}, []uint64{2, 3, 5, 7, 11, 13}},
	{341550071728321, []uint64{10670053, 32010157}, []uint64{2, 3, 5, 7, 11, 13, 17, 19}},
	{3825123056546413051, []uint64{149491, 747451, 34233211}, []uint64{2, 3, 5, 7, 11, 13, 17, 19, 23, 29, 31}},
	{35705395979370253, []uint64{133613989, 267227977}, []uint64{2, 3, 7, 11, 13, 17, 19, 23, 29, 31, 37}},
	{15860485967330334331, []uint64{2816068711, 5632137421}, []uint64{3, 5, 7, 11, 13, 17, 19, 23, 29, 31, 37}},
}

func TestIsLiars(t *testing.T) {
	for _, r := range liars {
		product := uint64(1)
		for _, d := range r.divisors {
			product *= d
			is(t, d, true)
		}
		if product != r.n {
			t.Fatal("not the product:", r)
		}
		for _, b := range r.bases {
			if !strong(r.n, b) {
				t.Fatal("no liar:", r.n, b)
			}
		}
		is(t, r.n, false)
	}
}

// Each 2^p - 1 answers the base 2 as a prime does, p being one.
func TestIsMersenne(t *testing.T) {
	primes := []int{2, 3, 5, 7, 13, 17, 19, 31, 61}
	for p := 2; p < 64; p++ {
		is(t, 1<<p-1, slices.Contains(primes, p))
	}
}

// Carmichael's numbers: each base's power of n is the base, as if n were a prime.
func TestIsCarmichael(t *testing.T) {
	for _, n := range []uint64{561, 1105, 1729, 2465, 2821, 6601, 8911, 10585, 15841, 29341, 41041, 825265, 321197185, 5394826801, 232250619601, 9746347772161} {
		for b := uint64(2); b < 60; b++ {
			if powerOf(b, n, n) != b%n {
				t.Fatal("none of Carmichael's:", n)
			}
		}
		is(t, n, false)
	}
	found := 0
	for k := uint64(1); k < 242000; k += 5 { // Chernick's, in three divisors
		if byBig(6*k+1) && byBig(12*k+1) && byBig(18*k+1) {
			found++
			is(t, (6*k+1)*(12*k+1)*(18*k+1), false)
		}
	}
	if found < 100 {
		t.Error("found:", found)
	}
}

// Products of p and 2 p - 1, or 3 p - 2, both primes, answer each base as a prime does in one of few cases.
func TestIsTwins(t *testing.T) {
	s := source(73)
	found := 0
	for range 60000 {
		p := s.next()>>33 | 1
		if !byBig(p) {
			continue
		}
		for times := uint64(2); times < 6; times++ {
			q := times*(p-1) + 1
			if hi, n := bits.Mul64(p, q); hi == 0 && byBig(q) {
				found++
				is(t, n, false)
			}
		}
	}
	if found < 10 {
		t.Error("found:", found)
	}
}

// P7.1: Next

func next(t *testing.T, n, asked uint64) {
	t.Helper()
	if p, ok := prime.Next(n); p != asked || !ok {
		t.Errorf("Next(%d): got %d, %v, want %d", n, p, ok, asked)
	}
}

func TestNextLeast(t *testing.T) {
	for n, asked := range []uint64{2, 2, 3, 5, 5, 7, 7, 11, 11, 11, 11, 13, 13, 17} {
		next(t, uint64(n), asked)
	}
}

func TestNextSmall(t *testing.T) {
	asked := uint64(0)
	for n := uint64(20011); n > 0; n-- {
		if byDivisors(n) {
			asked = n
		}
		if asked > 0 {
			next(t, n-1, asked)
		}
	}
}

// gaps are primes, and how far behind each the next one stands: wider than behind any smaller one.
var gaps = []struct{ p, gap uint64 }{
	{2, 1}, {3, 2}, {7, 4}, {23, 6}, {89, 8}, {113, 14}, {523, 18}, {887, 20}, {1129, 22}, {1327, 34}, {9551, 36},
	{15683, 44}, {19609, 52}, {31397, 72}, {155921, 86}, {360653, 96}, {370261, 112}, {492113, 114}, {1349533, 118},
	{1357201, 132}, {2010733, 148}, {4652353, 154}, {17051707, 180}, {20831323, 210}, {47326693, 220}, {122164747, 222},
	{189695659, 234}, {191912783, 248}, {387096133, 250}, {436273009, 282}, {1294268491, 288}, {1453168141, 292},
	{2300942549, 320}, {3842610773, 336}, {4302407359, 354}, {10726904659, 382}, {20678048297, 384}, {22367084959, 394},
	{25056082087, 456}, {42652618343, 464}, {127976334671, 468}, {182226896239, 474}, {241160624143, 486},
	{297501075799, 490}, {303371455241, 500}, {304599508537, 514}, {416608695821, 516}, {461690510011, 532},
	{614487453523, 534}, {738832927927, 540}, {1346294310749, 582}, {1408695493609, 588}, {1968188556461, 602},
	{2614941710599, 652}, {7177162611713, 674}, {13829048559701, 716}, {19581334192423, 766}, {42842283925351, 778},
	{90874329411493, 804}, {171231342420521, 806}, {218209405436543, 906}, {1189459969825483, 916},
	{1686994940955803, 924}, {1693182318746371, 1132}, {43841547845541059, 1184}, {55350776431903243, 1198},
	{80873624627234849, 1220}, {203986478517455989, 1224}, {218034721194214273, 1248}, {305405826521087869, 1272},
	{352521223451364323, 1328}, {401429925999153707, 1356}, {418032645936712127, 1370}, {804212830686677669, 1442},
	{1425172824437699411, 1476}, {5733241593241196731, 1488}, {6787988999657777797, 1510},
	{15570628755536096243, 1526}, {17678654157568189057, 1530}, {18361375334787046697, 1550},
}

func TestNextGaps(t *testing.T) {
	for _, r := range gaps {
		far := r.p + r.gap
		if !byBig(r.p) || after(r.p) != far {
			t.Fatal("no gap:", r)
		}
		next(t, r.p-1, r.p)
		next(t, r.p, far)
		next(t, far-1, far)
		next(t, far, after(far))
		for n := r.p; n < far; n += 1 + r.gap/9 {
			next(t, n, far)
		}
		if r.p > 2 {
			next(t, ahead(r.p), r.p)
			next(t, ahead(r.p)-1, ahead(r.p))
		}
	}
}

func TestNextAtEdges(t *testing.T) {
	for _, r := range [][2]uint64{{below32, above32}, {below62, above62}, {below63, above63}} {
		next(t, r[0]-1, r[0])
		for n := r[0]; n < r[1]; n++ {
			next(t, n, r[1])
		}
		next(t, r[1], after(r[1]))
	}
	last := ahead(below64)
	next(t, last-1, last)
	for n := last; n < below64; n++ {
		next(t, n, below64)
	}
	for n := below64; n != 0; n++ {
		if p, ok := prime.Next(n); p != 0 || ok {
			t.Errorf("Next(%d): got %d, %v", n, p, ok)
		}
	}
}

func TestNextRow(t *testing.T) {
	s := source(74)
	for range 200 {
		n := s.sized()
		for range 5 {
			if n >= below64 {
				break
			}
			asked := after(n)
			next(t, n, asked)
			next(t, asked-1, asked)
			n = asked
		}
	}
}

// P7.1: Mod

// noMod are no odd primes below MaxMod.
func noMod() []uint64 {
	list := []uint64{
		0, 1, 2, 4, 6, 8, 34, 1 << 32, 1<<62 - 58, 1<<62 - 56, 1<<62 - 2, 1 << 62, 1 << 63, most - 1,
		9, 15, 21, 25, 27, 49, 121, 169, 561, 1369, 1681, 2047, 65535, 1<<32 - 1, 1<<32 + 1, 1<<31*1<<30 + 1,
		2147483647 * 2147483629, 1<<62 - 1, 1<<62 - 55, 1<<62 - 59,
		1<<62 + 1, above62, after(above62), below63, above63, ahead(below64), below64, most,
		3 * 180143985094819841, 4052555153018976267,
	}
	for _, r := range liars {
		list = append(list, r.n)
	}
	return list
}

func TestModRefused(t *testing.T) {
	for _, p := range noMod() {
		if m, e := prime.Mod(p); m != nil || e != api.ErrMod {
			t.Errorf("Mod(%d): %v, error %d", p, m, e)
		}
	}
}

func mod(t *testing.T, p uint64) *modw.Mod {
	t.Helper()
	m, e := prime.Mod(p)
	if e != api.OK || m == nil {
		t.Fatalf("Mod(%d): %v, error %d", p, m, e)
	}
	if m.P() != p {
		t.Fatalf("Mod(%d): P is %d", p, m.P())
	}
	return m
}

func TestModSmall(t *testing.T) {
	for p := range uint64(3000) {
		if p != 2 && byDivisors(p) {
			mod(t, p)
		} else if m, e := prime.Mod(p); m != nil || e != api.ErrMod {
			t.Errorf("Mod(%d): %v, error %d", p, m, e)
		}
	}
}

func TestModReckons(t *testing.T) {
	for _, p := range []uint64{3, 5, 17, 65537, 1<<31 - 1, below32, above32, 180143985094819841, 1<<61 - 1, below62} {
		m := mod(t, p)
		given, _ := modw.New(p)
		for _, a := range []uint64{0, 1, 2, p - 1, p, p + 1, 1 << 62, below64, most} {
			b, ok := m.Inv(a)
			asked, there := given.Inv(a)
			if b != asked || ok != there || ok != (a%p != 0) {
				t.Errorf("p %d, Inv(%d): %d, %v", p, a, b, ok)
			}
			if m.Mul(a, a+1) != given.Mul(a, a+1) || m.Pow(a, p) != a%p {
				t.Errorf("p %d: Mul, Pow of %d", p, a)
			}
		}
	}
}

// P7.2

func TestThree(t *testing.T) {
	asked := [3]api.Prime{
		{P: 180143985094819841, Log: 55, Root: 6},
		{P: 1945555039024054273, Log: 56, Root: 5},
		{P: 4179340454199820289, Log: 57, Root: 3},
	}
	if got := prime.Three(); got != asked {
		t.Error("got:", got)
	}
	for i, odd := range []uint64{5, 27, 29} {
		p := asked[i]
		if p.P != odd<<p.Log+1 {
			t.Error("not so:", p)
		}
	}
}

func TestThreeGenerate(t *testing.T) {
	divisors := [3][]uint64{{2, 5}, {2, 3}, {2, 29}}
	for i, p := range prime.Three() {
		is(t, p.P, true)
		mod(t, p.P)
		rest := p.P - 1
		for _, d := range divisors[i] {
			for rest%d == 0 {
				rest /= d
			}
			if powerOf(p.Root, (p.P-1)/d, p.P) == 1 {
				t.Errorf("%d: not all residues but 0 (%d)", p.P, d)
			}
		}
		if rest != 1 || powerOf(p.Root, p.P-1, p.P) != 1 {
			t.Error("divisors:", p, rest)
		}
		if (p.P-1)>>p.Log%2 != 1 || bits.TrailingZeros64(p.P-1) != p.Log {
			t.Error("Log:", p)
		}
	}
}

// R5: what is done to an answer is not seen in the next one.
func TestThreeIsNew(t *testing.T) {
	kept := prime.Three()
	changed := prime.Three()
	changed[0].P, changed[1].Log, changed[2].Root = 7, 1, 0
	changed[2].P++
	if prime.Three() != kept || kept == changed {
		t.Error("changed:", prime.Three())
	}
	if _, e := prime.Root(kept[0].P, 20); e != api.OK {
		t.Error("error", e)
	}
}

// P7.3

func rootError(t *testing.T, p uint64, log int, asked api.Errno) {
	t.Helper()
	if x, e := prime.Root(p, log); x != 0 || e != asked {
		t.Errorf("Root(%d, %d): %d, error %d, want error %d", p, log, x, e, asked)
	}
}

func root(t *testing.T, p uint64, log int, asked uint64) {
	t.Helper()
	if x, e := prime.Root(p, log); x != asked || e != api.OK {
		t.Errorf("Root(%d, %d): %d, error %d, want %d", p, log, x, e, asked)
	}
}

// badLogs are out of range, whatever the modulus.
var badLogs = []int{-1, -2, -20, -64, math.MinInt, math.MinInt + 1, api.MaxLog + 1, 22, 32, 55, 56, 57, 63, 64, 65, 1 << 32, 1<<32 + 1, math.MaxInt - 1, math.MaxInt}

func TestRootExample(t *testing.T) { root(t, 17, 2, 13) }

// ErrMod stands first: it is the answer where the log may not be as well.
func TestRootOfNoPrime(t *testing.T) {
	for _, p := range noMod() {
		for log := 0; log <= api.MaxLog; log++ {
			rootError(t, p, log, api.ErrMod)
		}
		for _, log := range badLogs {
			rootError(t, p, log, api.ErrMod)
		}
	}
}

func TestRootBadLog(t *testing.T) {
	list := []uint64{3, 5, 7, 17, 97, 257, 65537, 7340033, 5767169, 167772161, 998244353, below32, 1<<61 - 1, below62}
	for _, p := range prime.Three() {
		list = append(list, p.P)
	}
	for _, p := range list {
		for _, log := range badLogs {
			rootError(t, p, log, api.ErrArg)
		}
		for log := bits.TrailingZeros64(p-1) + 1; log < 70; log++ {
			rootError(t, p, log, api.ErrArg)
		}
	}
}

func TestRootByHand(t *testing.T) {
	for p, roots := range map[uint64][]uint64{
		3: {1, 2}, 5: {1, 4, 2}, 7: {1, 6}, 17: {1, 16, 13, 9, 3}, 97: {1, 96, 22, 64, 8, 28},
		257: {1, 256, 241, 64, 249, 136, 81, 9, 3},
	} {
		for log, asked := range roots {
			root(t, p, log, asked)
		}
		rootError(t, p, len(roots), api.ErrArg)
		rootError(t, p, -1, api.ErrArg)
	}
}

// slowPower multiplies one by one.
func slowPower(a, k, p uint64) uint64 {
	out := uint64(1)
	for range k {
		out = out * a % p
	}
	return out
}

func TestRootSmall(t *testing.T) {
	for p := uint64(3); p < 700; p += 2 {
		if !byDivisors(p) {
			rootError(t, p, 0, api.ErrMod)
			continue
		}
		x := uint64(2)
		for slowPower(x, (p-1)/2, p) != p-1 {
			x++
		}
		for log := range 22 {
			if (p-1)%(1<<log) != 0 {
				rootError(t, p, log, api.ErrArg)
			} else {
				root(t, p, log, slowPower(x, (p-1)/(1<<log), p))
			}
		}
	}
}

// checkRoots holds all of p's roots against package big, and each order against 2 to the log.
func checkRoots(t *testing.T, p uint64) {
	t.Helper()
	x := uint64(2)
	for big.Jacobi(bigOf(x), bigOf(p)) != -1 {
		x++
	}
	for log := 0; log <= min(api.MaxLog, bits.TrailingZeros64(p-1)); log++ {
		root(t, p, log, powerOf(x, (p-1)>>log, p))
		w, _ := prime.Root(p, log)
		if powerOf(w, 1<<log, p) != 1 || log > 0 && powerOf(w, 1<<(log-1), p) != p-1 {
			t.Errorf("Root(%d, %d): %d has another order", p, log, w)
		}
	}
}

func TestRootThree(t *testing.T) {
	for _, p := range prime.Three() {
		checkRoots(t, p.P)
		root(t, p.P, 0, 1)
		root(t, p.P, 1, p.P-1)
		rootError(t, p.P, 21, api.ErrArg)
		rootError(t, p.P, p.Log, api.ErrArg)
	}
}

func TestRootGreat(t *testing.T) {
	list := []uint64{
		65537, 5767169, 7340033, 167772161, 469762049, 998244353, below32, above32, 1<<31 - 1, 1<<61 - 1, below62,
		// The least primes whose x is 3, 5, 7 and so on to 59.
		7, 23, 71, 311, 479, 1559, 5711, 10559, 18191, 31391, 422231, 701399, 366791, 3818929, 9257329, 22000801,
	}
	for _, p := range list {
		checkRoots(t, p)
	}
	root(t, 7340033, 20, 2187) // 3 to the 7
	rootError(t, 5767169, 20, api.ErrArg)
}

func TestRootMany(t *testing.T) {
	s := source(75)
	for range 300 {
		p := s.sized() % below62
		if p = after(max(p, 2)); p < api.MaxMod {
			checkRoots(t, p)
		}
		twos := int(s.next() % 24)
		for p = s.sized()>>26<<twos + 1; !byBig(p); p += 1 << twos {
		}
		if p > 2 && p < api.MaxMod {
			checkRoots(t, p)
		}
	}
}
