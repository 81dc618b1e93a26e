package conv_test

import (
	"math/big"
	"math/bits"
	"slices"
	"testing"

	"ziggurat/api"
	"ziggurat/conv"
	"ziggurat/meter"
	"ziggurat/prime"
	"ziggurat/table"
)

const (
	half = uint64(1) << 63
	most = ^uint64(0)

	first  = uint64(5)<<55 + 1
	second = uint64(27)<<56 + 1
	third  = uint64(29)<<57 + 1
)

var three = [3]uint64{first, second, third}

// source is a row of words that is the same in every run.
type source uint64

func (s *source) next() uint64 {
	*s = *s*6364136223846793005 + 1442695040888963407
	x := uint64(*s)
	return (x ^ x>>29) * 0x9e3779b97f4a7c15
}

func (s *source) row(n int) []uint64 {
	a := make([]uint64, n)
	for i := range a {
		a[i] = s.next()
	}
	return a
}

func (s *source) triples(n int) [][3]uint64 {
	l := make([][3]uint64, n)
	for i := range l {
		l[i] = [3]uint64{s.next(), s.next(), s.next()}
	}
	return l
}

func same(x uint64, n int) []uint64 { return slices.Repeat([]uint64{x}, n) }

// lone is a row of noughts, but for the word at that place.
func lone(x uint64, place, n int) []uint64 {
	a := make([]uint64, n)
	a[place] = x
	return a
}

// rows are rows of n words, of all kinds: noughts alone, ones, the greatest words, a lone word at either end, noughts on top and at the bottom, and any.
func rows(n int) [][]uint64 {
	s := source(90 + n)
	top, bottom, mixed := s.row(n), s.row(n), s.row(n)
	clear(top[n-(n+1)/2:])
	clear(bottom[:(n+1)/2])
	edges := []uint64{0, 1, 2, first, second, third, half, most - 1, most}
	for i, x := range mixed {
		mixed[i] = edges[x%uint64(len(edges))]
	}
	return [][]uint64{
		s.row(n), same(most, n), make([]uint64, n), same(1, n), same(half, n), same(first, n),
		lone(most, 0, n), lone(most, n-1, n), lone(1, n/2, n), top, bottom, mixed,
	}
}

// What is asked, reckoned by the library's double words and great numbers alone.

// great is the number that has these words.
func great(a []uint64) *big.Int {
	list := make([]byte, 0, 8*len(a))
	for _, w := range slices.Backward(a) {
		for place := 56; place >= 0; place -= 8 {
			list = append(list, byte(w>>place))
		}
	}
	return new(big.Int).SetBytes(list)
}

// wordsOf are a number's words, without noughts on top.
func wordsOf(x *big.Int) api.Nat {
	row := make(api.Nat, (x.BitLen()+63)/64)
	list := x.FillBytes(make([]byte, 8*len(row)))
	for i := range list {
		row[len(row)-1-i/8] = row[len(row)-1-i/8]<<8 | uint64(list[i])
	}
	return row
}

func powerOfTwo(n int) *big.Int { return new(big.Int).Lsh(big.NewInt(1), uint(n)) }

func product(a, b []uint64) *big.Int { return new(big.Int).Mul(great(a), great(b)) }

// primes is the product of the three primes.
func primes() *big.Int {
	return product(wordsOf(product([]uint64{first}, []uint64{second})), []uint64{third})
}

// residue is a number modulo a word.
func residue(x *big.Int, p uint64) uint64 {
	rest := wordsOf(new(big.Int).Mod(x, great([]uint64{p})))
	return append(rest, 0)[0]
}

// sumsBy are the sums of a[i] b[j] with i + j = k.
func sumsBy(a, b []uint64) [][3]uint64 {
	list := make([][3]uint64, len(a)+len(b)-1)
	for i, x := range a {
		for j, y := range b {
			hi, lo := bits.Mul64(x, y)
			w := &list[i+j]
			var carry uint64
			w[0], carry = bits.Add64(w[0], lo, 0)
			w[1], carry = bits.Add64(w[1], hi, carry)
			w[2] += carry
		}
	}
	return list
}

// carried is Carry by its definition.
func carried(l [][3]uint64) *big.Int {
	sum := new(big.Int)
	for i, w := range l {
		sum.Add(sum, new(big.Int).Lsh(great(w[:]), uint(64*i)))
	}
	return sum
}

// What Words and Mul spend, and what Sqr spends, by the log of how long the transforms are: 3 (ways (N / 2) L + 2 N) + 6 N.
var (
	productCosts = []int{0, 33, 84, 204, 480, 1104, 2496, 5568, 12288, 26880, 58368, 125952, 270336, 577536, 1228800, 2605056}
	squareCosts  = []int{0, 30, 72, 168, 384, 864, 1920, 4224, 9216, 19968, 43008, 92160, 196608, 417792, 884736, 1867776}
)

// logFor is the log of the least power of two that is n at least.
func logFor(n int) int {
	log := 0
	for 1<<log < n {
		log++
	}
	return log
}

func productCost(a, b []uint64) int { return productCosts[logFor(len(a)+len(b))] }
func squareCost(a []uint64) int     { return squareCosts[logFor(2*len(a))] }

// isNat holds an answer against the number that is asked: a natural has no zero words on top.
func isNat(t *testing.T, name string, got api.Nat, asked *big.Int) {
	t.Helper()
	if !slices.Equal(got, wordsOf(asked)) {
		t.Fatalf("%s: %d words, want %d: %v, want %v", name, len(got), len(wordsOf(asked)), cut(got), cut(wordsOf(asked)))
	}
}

// cut is what of a row is told: a great one would fill pages.
func cut[T any](l []T) []T { return l[:min(len(l), 24)] }

func words(t *testing.T, a, b []uint64) {
	t.Helper()
	var m meter.Meter
	got, ok := conv.Words(&m, a, b)
	if asked := sumsBy(a, b); !ok || !slices.Equal(got, asked) {
		t.Fatalf("Words of %d, %d words: %v, %v, want %v", len(a), len(b), ok, cut(got), cut(asked))
	}
	spent(t, "Words", m, productCost(a, b))
}

func mul(t *testing.T, a, b []uint64) {
	t.Helper()
	var m meter.Meter
	got, ok := conv.Mul(&m, a, b)
	if !ok {
		t.Fatalf("Mul of %d, %d words: false", len(a), len(b))
	}
	isNat(t, "Mul", got, product(a, b))
	spent(t, "Mul", m, productCost(a, b))
}

func sqr(t *testing.T, a []uint64) {
	t.Helper()
	var m meter.Meter
	got, ok := conv.Sqr(&m, a)
	if !ok {
		t.Fatalf("Sqr of %d words: false", len(a))
	}
	isNat(t, "Sqr", got, product(a, a))
	spent(t, "Sqr", m, squareCost(a))
}

// spent holds what was spent since the meter's beginning; no level is entered.
func spent(t *testing.T, name string, m meter.Meter, asked int) {
	t.Helper()
	if m.Muls() != asked || m.Now() != 0 || m.Deep() != 0 {
		t.Fatalf("%s: spent %d, want %d; level %d, %d", name, m.Muls(), asked, m.Now(), m.Deep())
	}
}

// P9.1: Three

func TestPrimesAreThese(t *testing.T) {
	for i, p := range prime.Three() {
		if p.P != three[i] {
			t.Error(i, p.P)
		}
	}
}

func TestThreeByHand(t *testing.T) {
	list := []struct{ of, asked [3]uint64 }{
		{[3]uint64{0, 0, 0}, [3]uint64{0, 0, 0}},
		{[3]uint64{1, 1, 1}, [3]uint64{1, 0, 0}},
		{[3]uint64{5, 5, 5}, [3]uint64{5, 0, 0}},
		{[3]uint64{first, second, third}, [3]uint64{0, 0, 0}},
		{[3]uint64{first + 7, second + 7, third + 7}, [3]uint64{7, 0, 0}},
		{[3]uint64{most, most, most}, [3]uint64{most, 0, 0}},
		{[3]uint64{first - 1, second - 1, third - 1}, [3]uint64{6305039478318694400, 500603246079901696, 4304588022743040}},
		{[3]uint64{1, 0, 0}, [3]uint64{1024121370531330265, 4599601121371588000, 2087792462584324}},
		{[3]uint64{0, 1, 0}, [3]uint64{16388928141801523373, 7653303226991620556, 150192998818552}},
		{[3]uint64{0, 0, 1}, [3]uint64{7338734039695392380, 6694442971426244755, 2066602561340163}},
		{[3]uint64{first - 1, 0, 0}, [3]uint64{5280918107787364136, 14347746198417865312, 2216795560158715}},
		{[3]uint64{0, second - 1, 0}, [3]uint64{8362855410226722644, 11294044092797832755, 4154395023924487}},
		{[3]uint64{0, 0, third - 1}, [3]uint64{17413049512332853637, 12252904348363208556, 2237985461402876}},
		{[3]uint64{1, 2, 3}, [3]uint64{12619652147482756518, 2595445096134558451, 4283398121498879}},
	}
	for _, r := range list {
		if got := conv.Three(r.of[0], r.of[1], r.of[2]); got != r.asked {
			t.Errorf("Three of %v: %v, want %v", r.of, got, r.asked)
		}
	}
}

// checkThree holds an answer against the definition: each remainder, and that it is the least one.
func checkThree(t *testing.T, product *big.Int, r [3]uint64) {
	t.Helper()
	got := conv.Three(r[0], r[1], r[2])
	x := great(got[:])
	for i, p := range three {
		if residue(x, p) != r[i]%p {
			t.Fatalf("Three of %v: %v, which is %d modulo %d", r, got, residue(x, p), p)
		}
	}
	if x.Cmp(product) >= 0 {
		t.Fatalf("Three of %v: %v, which is not the least", r, got)
	}
}

// edges are words at which a remainder modulo p changes its course.
func edges(p uint64) []uint64 {
	return []uint64{0, 1, 2, p / 2, p - 1, p, p + 1, 2*p - 1, 2 * p, half, most/p*p - 1, most / p * p, most - 1, most}
}

func TestThreeAtEdges(t *testing.T) {
	product := primes()
	for _, r0 := range edges(first) {
		for _, r1 := range edges(second) {
			for _, r2 := range edges(third) {
				checkThree(t, product, [3]uint64{r0, r1, r2})
			}
		}
	}
	// At each prime's edges all three.
	for _, p := range three {
		for _, r := range edges(p) {
			checkThree(t, product, [3]uint64{r, r, r})
		}
	}
}

func TestThreeOfAny(t *testing.T) {
	product := primes()
	s := source(901)
	for _, r := range s.triples(5000) {
		checkThree(t, product, r)
		checkThree(t, product, [3]uint64{r[0] % first, r[1] % second, r[2] % third})
	}
}

// A number below the primes' product is told by its residues.
func TestThreeThereAndBack(t *testing.T) {
	product := primes()
	list := []*big.Int{new(big.Int), new(big.Int).Rsh(product, 1)}
	for n := range 180 {
		list = append(list, powerOfTwo(n))
	}
	for i, p := range three {
		list = append(list, great([]uint64{p}), new(big.Int).Mul(great([]uint64{p}), great([]uint64{three[(i+1)%3]})))
	}
	s := source(902)
	for range 2000 {
		list = append(list, new(big.Int).Rsh(great(s.row(3)), uint(s.next()%192)))
	}
	for _, middle := range list {
		for _, near := range []int64{-1, 0, 1} {
			x := new(big.Int).Mod(new(big.Int).Add(middle, big.NewInt(near)), product)
			got := conv.Three(residue(x, first), residue(x, second), residue(x, third))
			if great(got[:]).Cmp(x) != 0 {
				t.Fatalf("%v: got %v", wordsOf(x), got)
			}
		}
	}
}

// P9.1: Carry

func TestCarryExample(t *testing.T) {
	if got := conv.Carry([3]uint64{5, 1, 0}, [3]uint64{7, 0, 0}); !slices.Equal(got, api.Nat{5, 8}) {
		t.Error(got)
	}
}

func TestCarryByHand(t *testing.T) {
	all := [3]uint64{most, most, most}
	list := []struct {
		of    [][3]uint64
		asked api.Nat
	}{
		{nil, nil},
		{[][3]uint64{}, nil},
		{[][3]uint64{{}}, nil},
		{[][3]uint64{{}, {}, {}}, nil},
		{[][3]uint64{{1}}, api.Nat{1}},
		{[][3]uint64{{0, 1}}, api.Nat{0, 1}},
		{[][3]uint64{{0, 0, 1}}, api.Nat{0, 0, 1}},
		{[][3]uint64{{1, 2, 3}}, api.Nat{1, 2, 3}},
		{[][3]uint64{{1, 2, 3}, {}, {}, {}}, api.Nat{1, 2, 3}},
		{[][3]uint64{{}, {}, {1, 2, 3}}, api.Nat{0, 0, 1, 2, 3}},
		{[][3]uint64{{1, 2, 3}, {10, 20, 30}}, api.Nat{1, 12, 23, 30}},
		{[][3]uint64{{1, 2, 3}, {10, 20, 30}, {100, 200, 300}}, api.Nat{1, 12, 123, 230, 300}},
		{[][3]uint64{all}, api.Nat{most, most, most}},
		{[][3]uint64{all, {1}}, api.Nat{most, 0, 0, 1}},
		{[][3]uint64{all, all}, api.Nat{most, most - 1, most, 0, 1}},
		{[][3]uint64{{0, 1}, {most}, {most}}, api.Nat{0, 0, 0, 1}},
		{[][3]uint64{{0, 0, most}, {0, most}, {most}}, api.Nat{0, 0, most - 2, 2}},
	}
	for _, r := range list {
		if got := conv.Carry(r.of...); !slices.Equal(got, r.asked) {
			t.Errorf("Carry of %v: %v, want %v", r.of, got, r.asked)
		}
	}
}

func TestCarryOfMany(t *testing.T) {
	s := source(903)
	for n := range 80 {
		l := s.triples(n)
		isNat(t, "Carry of any", conv.Carry(l...), carried(l))
		for i := range l { // as a product's sums are: the upper word is small
			l[i][2] >>= 50
		}
		isNat(t, "Carry of sums", conv.Carry(l...), carried(l))
		for i := range l {
			for j := range 3 {
				l[i][j] = []uint64{0, 1, most - 1, most}[s.next()%4]
			}
		}
		isNat(t, "Carry of edges", conv.Carry(l...), carried(l))
		clear(l[n/2:])
		isNat(t, "Carry with noughts on top", conv.Carry(l...), carried(l))
		clear(l)
		isNat(t, "Carry of noughts", conv.Carry(l...), new(big.Int))
	}
	l := s.triples(5000)
	isNat(t, "Carry of 5000", conv.Carry(l...), carried(l))
}

// The greatest words everywhere, and with a member that is less or a nought at one place.
func TestCarryOfGreatest(t *testing.T) {
	for _, n := range []int{1, 2, 3, 4, 5, 10, 64, 300} {
		l := slices.Repeat([][3]uint64{{most, most, most}}, n)
		isNat(t, "Carry", conv.Carry(l...), carried(l))
		for j := range 3 {
			for _, place := range []int{0, n / 2, n - 1} {
				for _, x := range []uint64{0, most - 1} {
					kept := l[place]
					l[place][j] = x
					isNat(t, "Carry", conv.Carry(l...), carried(l))
					l[place] = kept
				}
			}
		}
	}
}

// A 1 at one place goes on over all the greatest words behind it: B to the n is left.
func TestCarryGoesOn(t *testing.T) {
	for _, n := range []int{3, 4, 5, 16, 100, 3000} {
		for _, j := range []int{1, 2} {
			l := make([][3]uint64, n)
			l[0][j] = 1
			for i := j; i < n; i++ {
				l[i][0] = most
			}
			isNat(t, "Carry", conv.Carry(l...), powerOfTwo(64*n))
			l[n-1] = [3]uint64{}
			isNat(t, "Carry", conv.Carry(l...), powerOfTwo(64*(n-1)))
		}
	}
}

// P9.2: Words, Mul, Sqr

func TestWordsByHand(t *testing.T) {
	list := []struct {
		a, b  []uint64
		asked [][3]uint64
	}{
		{[]uint64{5}, []uint64{7}, [][3]uint64{{35}}},
		{[]uint64{0}, []uint64{0}, [][3]uint64{{}}},
		{[]uint64{most}, []uint64{most}, [][3]uint64{{1, most - 1}}},
		{[]uint64{1, 2}, []uint64{3}, [][3]uint64{{3}, {6}}},
		{[]uint64{1, 2, 3}, []uint64{10, 100}, [][3]uint64{{10}, {120}, {230}, {300}}},
		{[]uint64{0, 1, 0}, []uint64{0, 7, 0, 0}, [][3]uint64{{}, {}, {7}, {}, {}, {}}},
		{[]uint64{most, most}, []uint64{most, most}, [][3]uint64{{1, most - 1}, {2, most - 3, 1}, {1, most - 1}}},
		{[]uint64{most, most, most}, []uint64{most, most, most}, [][3]uint64{{1, most - 1}, {2, most - 3, 1}, {3, most - 5, 2}, {2, most - 3, 1}, {1, most - 1}}},
	}
	for _, r := range list {
		for _, swap := range []bool{false, true} {
			a, b := r.a, r.b
			if swap {
				a, b = b, a
			}
			var m meter.Meter
			if got, ok := conv.Words(&m, a, b); !ok || !slices.Equal(got, r.asked) {
				t.Errorf("Words of %v, %v: %v, %v, want %v", a, b, got, ok, r.asked)
			}
		}
	}
}

func TestMulByHand(t *testing.T) {
	list := []struct{ a, b, asked api.Nat }{
		{api.Nat{5}, api.Nat{7}, api.Nat{35}},
		{api.Nat{0}, api.Nat{0}, nil},
		{api.Nat{0, 0, 0}, api.Nat{5, 0}, nil},
		{api.Nat{5, 0, 0}, api.Nat{7, 0}, api.Nat{35}},
		{api.Nat{1}, api.Nat{1, 0, 3}, api.Nat{1, 0, 3}},
		{api.Nat{most}, api.Nat{most}, api.Nat{1, most - 1}},
		{api.Nat{most, most}, api.Nat{most, most}, api.Nat{1, 0, most - 1, most}},
		{api.Nat{most, most, most}, api.Nat{most}, api.Nat{1, most, most, most - 1}},
		{api.Nat{1, 2, 3}, api.Nat{10, 100}, api.Nat{10, 120, 230, 300}},
		{api.Nat{0, 0, half}, api.Nat{0, 2}, api.Nat{0, 0, 0, 0, 1}},
	}
	for _, r := range list {
		var m meter.Meter
		if got, ok := conv.Mul(&m, r.a, r.b); !ok || !slices.Equal(got, r.asked) {
			t.Errorf("Mul of %v, %v: %v, %v", r.a, r.b, got, ok)
		}
		if got, ok := conv.Mul(&m, r.b, r.a); !ok || !slices.Equal(got, r.asked) {
			t.Errorf("Mul of %v, %v: %v, %v", r.b, r.a, got, ok)
		}
	}
}

func TestSqrByHand(t *testing.T) {
	list := []struct{ a, asked api.Nat }{
		{api.Nat{0}, nil},
		{api.Nat{0, 0, 0}, nil},
		{api.Nat{1}, api.Nat{1}},
		{api.Nat{7}, api.Nat{49}},
		{api.Nat{7, 0, 0}, api.Nat{49}},
		{api.Nat{0, 7, 0}, api.Nat{0, 0, 49}},
		{api.Nat{1, 2}, api.Nat{1, 4, 4}},
		{api.Nat{1, 2, 3}, api.Nat{1, 4, 10, 12, 9}},
		{api.Nat{most}, api.Nat{1, most - 1}},
		{api.Nat{most, most}, api.Nat{1, 0, most - 1, most}},
		{api.Nat{0, half}, api.Nat{0, 0, 0, 1 << 62}},
	}
	for _, r := range list {
		var m meter.Meter
		if got, ok := conv.Sqr(&m, r.a); !ok || !slices.Equal(got, r.asked) {
			t.Errorf("Sqr of %v: %v, %v", r.a, got, ok)
		}
	}
}

// Each two lengths, with all kinds of rows.
func TestSmall(t *testing.T) {
	for n := 1; n <= 18; n++ {
		list := rows(n)
		for m := 1; m <= 18; m++ {
			others := rows(m)
			for i, a := range list {
				for _, b := range [][]uint64{others[i], others[(i+n+m)%len(others)], others[1]} {
					words(t, a, b)
					mul(t, a, b)
				}
			}
		}
		for _, a := range list {
			sqr(t, a)
		}
	}
}

func TestDozens(t *testing.T) {
	for n := 19; n <= 70; n++ {
		list := rows(n)
		for i, m := range []int{1, 2, 7, n / 2, n - 1, n, n + 1, 2 * n} {
			others := rows(m)
			for _, k := range []int{0, 1, 2 + (n+i)%10} {
				words(t, list[k], others[k])
				mul(t, list[k], others[k])
				mul(t, others[0], list[k])
			}
		}
		for _, a := range list {
			sqr(t, a)
		}
	}
}

// Lengths that fill a transform just so, one less, and one more; one more may still have room for all its sums, but the transforms are as long as table.Transform says.
func TestFull(t *testing.T) {
	s := source(904)
	for log := 1; log <= 9; log++ {
		size := 1 << log
		for _, both := range []int{size - 1, size, size + 1, size + 2} {
			for _, n := range []int{1, 2, both / 3, both / 2, both/2 + 1, both - 2, both - 1} {
				m := both - n
				if n < 1 || m < 1 {
					continue
				}
				for _, pair := range [][2][]uint64{{s.row(n), s.row(m)}, {same(most, n), same(most, m)}, {lone(most, n-1, n), lone(most, m-1, m)}} {
					words(t, pair[0], pair[1])
					mul(t, pair[0], pair[1])
				}
			}
		}
		for _, n := range []int{size/2 - 1, size / 2, size/2 + 1} {
			if n > 0 {
				sqr(t, s.row(n))
				sqr(t, same(most, n))
				sqr(t, lone(most, n-1, n))
			}
		}
	}
}

// greatestSum is the k-th sum of rows of n and of m of the greatest words: so many times the square of one.
func greatestSum(k, n, m int) [3]uint64 {
	times := uint64(min(k+1, n, m, n+m-1-k))
	// That is (B B - 2 B + 1) times as many, where times is far below B: 2 times are borrowed from B times.
	return [3]uint64{times, -(2 * times), times - 1}
}

// checkGreatest holds the sums of the greatest words against their rule.
func checkGreatest(t *testing.T, n, m int) {
	t.Helper()
	var spending meter.Meter
	got, ok := conv.Words(&spending, same(most, n), same(most, m))
	if !ok || len(got) != n+m-1 {
		t.Fatal(n, m, ok, len(got))
	}
	for k, w := range got {
		if w != greatestSum(k, n, m) {
			t.Fatalf("Words of %d, %d greatest at %d: %v, want %v", n, m, k, w, greatestSum(k, n, m))
		}
	}
	if spending.Muls() != table.Transform(n, m, 3) {
		t.Error("spent:", spending.Muls())
	}
}

// squareOfGreatest is the square of B to the n less 1: B to the 2 n, less 2 B to the n, and 1 more.
func squareOfGreatest(n int) api.Nat {
	row := append(make(api.Nat, n), same(most, n)...)
	row[0], row[n] = 1, most-1
	return row
}

func TestGreatLengths(t *testing.T) {
	s := source(905)
	one := big.NewInt(1)
	for _, r := range [][2]int{{600, 600}, {1000, 24}, {1023, 1025}, {3000, 5000}, {4096, 4096}, {api.MaxWords, 1}, {9000, api.MaxWords}, {api.MaxWords, api.MaxWords}} {
		n, m := r[0], r[1]
		a, b := same(most, n), same(most, m)
		checkGreatest(t, n, m)
		var spending meter.Meter
		got, ok := conv.Mul(&spending, a, b)
		asked := new(big.Int).Sub(powerOfTwo(64*(n+m)), powerOfTwo(64*n))
		asked.Add(asked.Sub(asked, powerOfTwo(64*m)), one)
		if !ok {
			t.Fatal(n, m)
		}
		isNat(t, "Mul of greatest", got, asked)
		spent(t, "Mul of greatest", spending, productCost(a, b))
		// A power of two moves the other one.
		power, row := lone(1<<37, m-1, m), s.row(n)
		got, ok = conv.Mul(&spending, row, power)
		if !ok {
			t.Fatal(n, m)
		}
		isNat(t, "Mul by a power", got, new(big.Int).Lsh(great(row), uint(64*(m-1)+37)))
		mul(t, row, s.row(m))
	}
}

func TestGreatSquares(t *testing.T) {
	s := source(906)
	for _, n := range []int{511, 512, 513, 2048, 5000, 8191, api.MaxWords} {
		var spending meter.Meter
		got, ok := conv.Sqr(&spending, same(most, n))
		if !ok || !slices.Equal(got, squareOfGreatest(n)) {
			t.Fatal("Sqr of greatest:", n, ok, len(got))
		}
		spent(t, "Sqr of greatest", spending, squareCost(same(most, n)))
		got, ok = conv.Sqr(&spending, lone(1<<37, n-1, n))
		if !ok {
			t.Fatal(n)
		}
		isNat(t, "Sqr of a power", got, powerOfTwo(2*(64*(n-1)+37)))
		sqr(t, s.row(n))
	}
}

// Both together have just 2 to the MaxLog words.
func TestGreatestLengths(t *testing.T) {
	const all = 1 << api.MaxLog
	checkGreatest(t, all/2, all/2)
	s := source(907)
	row := s.row(all - 1)
	var m meter.Meter
	for _, pair := range [][2]api.Nat{{row, {1 << 37}}, {{1 << 37}, row}} {
		got, ok := conv.Mul(&m, pair[0], pair[1])
		if !ok {
			t.Fatal("Mul")
		}
		isNat(t, "Mul", got, new(big.Int).Lsh(great(row), 37))
	}
	got, ok := conv.Sqr(&m, same(most, all/2))
	if !ok || !slices.Equal(got, squareOfGreatest(all/2)) {
		t.Error("Sqr:", ok, len(got))
	}
	if m.Muls() != 2*table.Transform(all-1, 1, 3)+table.Transform(all/2, all/2, 2) {
		t.Error("spent:", m.Muls())
	}
}

// used is a meter that has spent, and is at a level.
func used() meter.Meter {
	var m meter.Meter
	m.Enter()
	m.Enter()
	m.Leave()
	m.Spend(41)
	return m
}

// refused holds that a call says false, and that nothing stands beside and nothing is spent.
func refused(t *testing.T, name string, n int, ok bool, m meter.Meter) {
	t.Helper()
	if ok || n != 0 || m != used() {
		t.Errorf("%s: %v, %d words, spent %d", name, ok, n, m.Muls())
	}
}

func refusedProducts(t *testing.T, a, b []uint64) {
	t.Helper()
	for _, pair := range [][2][]uint64{{a, b}, {b, a}} {
		m := used()
		sums, ok := conv.Words(&m, pair[0], pair[1])
		refused(t, "Words", len(sums), ok, m)
		got, ok := conv.Mul(&m, pair[0], pair[1])
		refused(t, "Mul", len(got), ok, m)
	}
}

func refusedSquare(t *testing.T, a []uint64) {
	t.Helper()
	m := used()
	got, ok := conv.Sqr(&m, a)
	refused(t, "Sqr", len(got), ok, m)
}

func TestRefuses(t *testing.T) {
	const all = 1 << api.MaxLog
	long := make([]uint64, 2*all)
	long[0] = 7
	empty := [][]uint64{nil, {}, long[:0], long[5:5]}
	for _, a := range empty {
		for _, b := range empty {
			refusedProducts(t, a, b)
		}
		for _, n := range []int{1, 2, 3, 64, all - 1, all, all + 1, 2 * all} {
			refusedProducts(t, a, long[:n])
		}
		refusedSquare(t, a)
	}
	for _, r := range [][2]int{{all, 1}, {all - 1, 2}, {all/2 + 1, all / 2}, {all/4 + 1, all / 4 * 3}, {all, all}, {all + 1, 1}, {2 * all, 1}, {2 * all, 2 * all}} {
		refusedProducts(t, long[:r[0]], long[:r[1]])
	}
	for _, n := range []int{all/2 + 1, all - 1, all, all + 1, 2 * all} {
		refusedSquare(t, long[:n])
	}
}

// What is spent

// What is spent is what table.Transform says of the lengths as they are handed in.
func TestSpendsByLengths(t *testing.T) {
	for n := 1; n <= 40; n++ {
		for m := 1; m <= 40; m++ {
			for _, x := range []uint64{0, most} {
				a, b := same(x, n), same(x, m)
				var words, product, square meter.Meter
				conv.Words(&words, a, b)
				conv.Mul(&product, a, b)
				conv.Sqr(&square, a)
				spent(t, "Words", words, table.Transform(n, m, 3))
				spent(t, "Mul", product, table.Transform(n, m, 3))
				spent(t, "Sqr", square, table.Transform(n, n, 2))
			}
		}
	}
}

func TestSpendsOnOneMeter(t *testing.T) {
	s := source(908)
	m := used()
	asked := m.Muls()
	held := func(name string, n int) {
		t.Helper()
		asked += n
		if m.Muls() != asked || m.Now() != 1 || m.Deep() != 2 {
			t.Fatalf("%s: spent %d, want %d; level %d, %d", name, m.Muls(), asked, m.Now(), m.Deep())
		}
	}
	for _, n := range []int{1, 3, 4, 5, 17, 40} {
		a, b := s.row(n), s.row(9)
		conv.Words(&m, a, b)
		held("Words", productCost(a, b))
		conv.Mul(&m, b, a)
		held("Mul", productCost(a, b))
		conv.Mul(&m, a, a)
		held("Mul of one twice", productCost(a, a))
		conv.Sqr(&m, a)
		held("Sqr", squareCost(a))
		conv.Words(&m, a, nil)
		conv.Mul(&m, nil, b)
		conv.Sqr(&m, nil)
		conv.Three(a[0], b[0], a[0])
		conv.Carry([3]uint64{a[0], b[0], 1})
		held("false, Three, Carry", 0)
	}
}

func TestTwoMeters(t *testing.T) {
	var one, other meter.Meter
	conv.Mul(&one, api.Nat{1, 2}, api.Nat{3})
	conv.Sqr(&other, api.Nat{1, 2})
	spent(t, "one", one, 84)
	spent(t, "other", other, 72)
	one.Reset()
	conv.Words(&one, api.Nat{1}, api.Nat{3})
	spent(t, "one", one, 33)
	spent(t, "other", other, 72)
}

// R4, R5

// call is a call that answers a list of words (sums: one behind another), and that list's memory, its spare room too, is written by spoil.
type call struct {
	name string
	of   func(a, b []uint64) (list []uint64, spoil func())
}

func natAnswer(got api.Nat) ([]uint64, func()) {
	return slices.Clone(got), func() { fill(got) }
}

func sumsAnswer(got [][3]uint64) ([]uint64, func()) {
	var list []uint64
	for _, w := range got {
		list = append(list, w[:]...)
	}
	return list, func() {
		for i := range got[:cap(got)] {
			got[:cap(got)][i] = [3]uint64{77, 78, 79}
		}
	}
}

func calls(m *meter.Meter) []call {
	return []call{
		{"Words", func(a, b []uint64) ([]uint64, func()) {
			got, _ := conv.Words(m, a, b)
			return sumsAnswer(got)
		}},
		{"Mul", func(a, b []uint64) ([]uint64, func()) {
			got, _ := conv.Mul(m, a, b)
			return natAnswer(got)
		}},
		{"Sqr", func(a, _ []uint64) ([]uint64, func()) {
			got, _ := conv.Sqr(m, a)
			return natAnswer(got)
		}},
	}
}

// fill writes all of a row's memory, its spare room too.
func fill(a []uint64) {
	for i := range a[:cap(a)] {
		a[:cap(a)][i] = most - uint64(i)
	}
}

// What is handed in is not changed, nor is what lies behind its length, which is not read either.
func TestHandedInIsLeft(t *testing.T) {
	s := source(909)
	var m meter.Meter
	for n := 1; n <= 20; n++ {
		for _, c := range calls(&m) {
			a, b := s.row(3*n+2), s.row(3*n+2)
			keptA, keptB := slices.Clone(a), slices.Clone(b)
			got, _ := c.of(a[1:n+1], b[n:2*n])
			if !slices.Equal(a, keptA) || !slices.Equal(b, keptB) {
				t.Fatalf("%s of %d: changed", c.name, n)
			}
			for i := range a { // what lies beside is another
				if i < 1 || i > n {
					a[i]++
				}
				if i < n || i >= 2*n {
					b[i]++
				}
			}
			if again, _ := c.of(a[1:n+1], b[n:2*n]); len(got) == 0 || !slices.Equal(got, again) {
				t.Fatalf("%s of %d: %v, then %v", c.name, n, got, again)
			}
		}
	}
}

// What is written to an answer is seen neither in what was handed in, nor in another answer, nor by a later call; what is written to what was handed in is not seen in the answer.
func TestHandedOutIsNew(t *testing.T) {
	s := source(910)
	var m meter.Meter
	for n := 1; n <= 20; n++ {
		for _, c := range calls(&m) {
			a, b := s.row(n), s.row(n+3)
			keptA, keptB := slices.Clone(a), slices.Clone(b)
			kept, spoil := c.of(a, b)
			spoil()
			if !slices.Equal(a, keptA) || !slices.Equal(b, keptB) {
				t.Fatalf("%s of %d: shared with what was handed in", c.name, n)
			}
			again, _ := c.of(a, b)
			if !slices.Equal(again, kept) {
				t.Fatalf("%s of %d: %v, then %v", c.name, n, kept, again)
			}
		}
	}
}

func TestAnswersApart(t *testing.T) {
	s := source(911)
	var m meter.Meter
	a, b := s.row(6), s.row(9)
	sameA, sameB := slices.Clone(a), slices.Clone(b)
	sums, _ := conv.Words(&m, a, b)
	other, _ := conv.Words(&m, a, b)
	product, _ := conv.Mul(&m, a, b)
	otherProduct, _ := conv.Mul(&m, a, b)
	square, _ := conv.Sqr(&m, a)
	otherSquare, _ := conv.Sqr(&m, a)
	for i := range other[:cap(other)] {
		other[:cap(other)][i] = [3]uint64{1, 2, 3}
	}
	fill(otherProduct)
	fill(otherSquare)
	fill(a)
	fill(b)
	if !slices.Equal(sums, sumsBy(sameA, sameB)) {
		t.Error("Words")
	}
	isNat(t, "Mul", product, carried(sumsBy(sameA, sameB)))
	isNat(t, "Sqr", square, carried(sumsBy(sameA, sameA)))
}

func TestCarryMemory(t *testing.T) {
	s := source(912)
	for n := 1; n <= 20; n++ {
		l := s.triples(n + 5)
		kept := slices.Clone(l)
		got := conv.Carry(l[:n]...)
		other := conv.Carry(l[:n]...)
		fill(other)
		if !slices.Equal(l, kept) {
			t.Fatal("changed, or shared:", n)
		}
		for i := n; i < len(l); i++ { // what lies behind is another
			l[i][0]++
		}
		isNat(t, "Carry", conv.Carry(l[:n]...), carried(kept[:n]))
		clear(l)
		isNat(t, "Carry", got, carried(kept[:n]))
	}
}

// Both may be one row, or overlap.
func TestOneRowTwice(t *testing.T) {
	s := source(913)
	a := s.row(40)
	kept := slices.Clone(a)
	for n := 1; n <= 20; n++ {
		words(t, a[:n], a[:n])
		words(t, a[:n], a[n/2:2*n])
		mul(t, a[:n], a[:n])
		mul(t, a[n:2*n], a[n/2:2*n])
		sqr(t, a[:n])
	}
	if !slices.Equal(a, kept) {
		t.Error("changed")
	}
}

// An answer is the same at each call, in whatever order.
func TestAnswersHangOnArguments(t *testing.T) {
	s := source(914)
	list := [][]uint64{s.row(1), s.row(33), same(most, 5), s.row(12), make([]uint64, 7)}
	for range 3 {
		for i, a := range list {
			b := list[(i+2)%len(list)]
			words(t, a, b)
			mul(t, a, b)
			sqr(t, b)
			if got := conv.Three(1, 2, 3); got != [3]uint64{12619652147482756518, 2595445096134558451, 4283398121498879} {
				t.Fatal(got)
			}
		}
		slices.Reverse(list)
	}
}
