package modw_test

import (
	"math/big"
	"slices"
	"testing"

	"ziggurat/api"
	"ziggurat/modw"
)

const (
	half = uint64(1) << 63
	most = ^uint64(0)

	// greatest is the greatest modulus: 3 times 715827883 times 2147483647.
	greatest = uint64(1)<<62 - 1
	// greatestPrime is the greatest prime modulus.
	greatestPrime = uint64(1)<<62 - 57
)

// great are moduli of many sizes: primes, primes for transforms, powers of primes, products, and neighbours of powers of 2.
var great = []uint64{
	3, 5, 7, 9, 15, 21, 255, 257, 65537, 1<<31 - 1, 1<<32 - 1, 1<<32 + 1, 1<<32 + 15,
	4052555153018976267, // 3 to the 39
	18014398509481983, 180143985094819841, 1945555039024054273, 4179340454199820289,
	(1<<31 - 1) * (1<<31 - 1), 1<<61 - 1, 1<<61 + 1, greatestPrime, greatest - 2, greatest,
}

// source is a row of words that is the same in every run; each fourth or so is at an edge.
type source uint64

func (s *source) next() uint64 {
	*s = *s*6364136223846793005 + 1442695040888963407
	x := uint64(*s)
	x ^= x >> 29
	switch x >> 59 {
	case 0, 1:
		return 0
	case 2, 3:
		return most
	case 4:
		return half
	case 5:
		return x & 3
	case 6:
		return most - x&3
	}
	return x * 0x9e3779b97f4a7c15
}

func (s *source) row(n int) []uint64 {
	a := make([]uint64, n)
	for i := range a {
		a[i] = s.next()
	}
	return a
}

// wordsAt are words that lie at the edges of p and of a word, and some between.
func wordsAt(p uint64) []uint64 {
	top := most / p * p
	list := []uint64{
		0, 1, 2, 3, p/2 - 1, p / 2, p/2 + 1, p - 2, p - 1, p, p + 1, p + 2, 2*p - 1, 2 * p, 2*p + 1, 3*p - 1, 3 * p, 3*p + 1,
		1<<32 - 1, 1 << 32, 1<<32 + 1, 1 << 62, 1<<62 - 1, half - 1, half, half + 1, top - 1, top, top - p, top - p + 1, most - 1, most,
	}
	s := source(p)
	return append(list, s.row(8)...)
}

// mod makes a modulus that may be.
func mod(t *testing.T, p uint64) *modw.Mod {
	t.Helper()
	m, e := modw.New(p)
	if e != api.OK || m == nil {
		t.Fatalf("New(%d): %v, error %d", p, m, e)
	}
	if m.P() != p {
		t.Fatalf("New(%d): P is %d", p, m.P())
	}
	return m
}

func bigOf(a uint64) *big.Int { return new(big.Int).SetUint64(a) }

// base is B.
func base() *big.Int { return new(big.Int).Lsh(big.NewInt(1), 64) }

// want holds an answer against the number that it must be modulo p, for any number, below 0 too.
func want(t *testing.T, got uint64, number *big.Int, p uint64, call string, args ...uint64) {
	t.Helper()
	asked := new(big.Int).Mod(number, bigOf(p)).Uint64()
	if got != asked {
		t.Fatalf("p %d, %s%d: got %d, want %d", p, call, args, got, asked)
	}
}

// is holds an answer against a number told by hand.
func is(t *testing.T, told string, answer, asked uint64) {
	t.Helper()
	if answer != asked {
		t.Errorf("%s: got %d, want %d", told, answer, asked)
	}
}

// P6.1

func refused(t *testing.T, p uint64) {
	t.Helper()
	if m, e := modw.New(p); m != nil || e != api.ErrMod {
		t.Errorf("New(%d): %v, error %d", p, m, e)
	}
}

func TestNew(t *testing.T) {
	for _, p := range []uint64{0, 1, 2, 4, 6, 1 << 32, 1<<32 + 2, 1 << 61, greatest - 1, 1 << 62, 1<<62 + 1, 1<<62 + 2, 1<<62 + 3, half - 1, half, half + 1, most - 1, most} {
		refused(t, p)
	}
	for p := uint64(3); p < 400; p += 2 {
		mod(t, p)
		refused(t, p-1)
		refused(t, most-p+1)
		refused(t, greatest+p+1)
		mod(t, greatest-p+1)
		refused(t, greatest-p)
	}
	for _, p := range great {
		mod(t, p)
	}
	mod(t, 3)
	mod(t, greatest)
}

func TestNewAtEachBit(t *testing.T) {
	for k := 1; k < 64; k++ {
		p := uint64(1) << k
		refused(t, p)
		if k == 1 || k > 61 {
			continue
		}
		mod(t, p-1)
		mod(t, p+1)
	}
}

func TestExamples(t *testing.T) {
	m := mod(t, 7)
	b, ok := m.Inv(3)
	is(t, "Inv(3)", b, 5)
	if !ok {
		t.Error("Inv(3): false")
	}
	is(t, "Neg(0)", m.Neg(0), 0)
}

func TestByHand(t *testing.T) {
	m := mod(t, 9)
	is(t, "P", m.P(), 9)
	is(t, "Red", m.Red(22), 4)
	is(t, "Red", m.Red(9), 0)
	is(t, "Add", m.Add(8, 8), 7)
	is(t, "Add", m.Add(4, 5), 0)
	is(t, "Add", m.Add(4, 4), 8)
	is(t, "Sub", m.Sub(3, 5), 7)
	is(t, "Sub", m.Sub(5, 5), 0)
	is(t, "Neg", m.Neg(1), 8)
	is(t, "Neg", m.Neg(9), 0)
	is(t, "Mul", m.Mul(3, 6), 0)
	is(t, "Mul", m.Mul(8, 8), 1)
	is(t, "Pow", m.Pow(2, 5), 5)
	is(t, "Mont", m.Mont(1), 7) // B is 16 to the 16, which is 7 to the 16, and 7 to the 3 is 1
	is(t, "Back", m.Back(7), 1)
	is(t, "MontMul", m.MontMul(7, 7), 7)
	is(t, "Shoup", m.Shoup(1), most/9)
	is(t, "Shoup", m.Shoup(3), most/3)
	is(t, "ShoupMul", m.ShoupMul(5, 3, most/3), 6)
}

func TestSmallSums(t *testing.T) {
	for p := uint64(3); p < 60; p += 2 {
		m := mod(t, p)
		for a := range 3*p + 2 {
			is(t, "Red", m.Red(a), a%p)
			is(t, "Neg", m.Neg(a), (4*p-a)%p)
			for b := range 2*p + 2 {
				is(t, "Add", m.Add(a, b), (a+b)%p)
				is(t, "Sub", m.Sub(a, b), (a+3*p-b)%p)
				is(t, "Mul", m.Mul(a, b), a*b%p)
			}
		}
	}
}

func TestSmallPowers(t *testing.T) {
	for p := uint64(3); p < 60; p += 2 {
		m := mod(t, p)
		for a := range 2*p + 2 {
			power := uint64(1)
			for n := range uint64(70) {
				is(t, "Pow", m.Pow(a, n), power)
				power = power * a % p
			}
		}
	}
}

// partner seeks the b below p with a b = 1 modulo p.
func partner(a, p uint64) (uint64, bool) {
	for b := range p {
		if a*b%p == 1 {
			return b, true
		}
	}
	return 0, false
}

func TestSmallInverses(t *testing.T) {
	for p := uint64(3); p < 200; p += 2 {
		m := mod(t, p)
		for a := range 3*p + 2 {
			b, ok := m.Inv(a)
			asked, there := partner(a, p)
			if b != asked || ok != there {
				t.Fatalf("p %d, Inv(%d): got %d, %v, want %d, %v", p, a, b, ok, asked, there)
			}
		}
	}
}

func checkPair(t *testing.T, m *modw.Mod, a, b uint64) {
	t.Helper()
	p, x, y := m.P(), bigOf(a), bigOf(b)
	want(t, m.Add(a, b), new(big.Int).Add(x, y), p, "Add", a, b)
	want(t, m.Sub(a, b), new(big.Int).Sub(x, y), p, "Sub", a, b)
	want(t, m.Mul(a, b), new(big.Int).Mul(x, y), p, "Mul", a, b)
}

func TestGreatSums(t *testing.T) {
	for _, p := range great {
		m := mod(t, p)
		for _, a := range wordsAt(p) {
			want(t, m.Red(a), bigOf(a), p, "Red", a)
			want(t, m.Neg(a), new(big.Int).Neg(bigOf(a)), p, "Neg", a)
			for _, b := range wordsAt(p) {
				checkPair(t, m, a, b)
			}
		}
	}
}

func TestMany(t *testing.T) {
	s := source(61)
	for range 3000 {
		p := s.next()>>2>>(s.next()%59) | 1
		if p < 3 {
			continue
		}
		m := mod(t, p)
		a, b := s.next(), s.next()
		checkPair(t, m, a, b)
		checkPair(t, m, a%p, b%p)
		checkMont(t, m, a, b)
		checkMont(t, m, a%p, b%p)
		checkShoup(t, m, a, b)
		checkShoup(t, m, a%p, b%p)
		checkInv(t, m, a)
		checkPow(t, m, a, b)
	}
}

func checkPow(t *testing.T, m *modw.Mod, a, n uint64) {
	t.Helper()
	want(t, m.Pow(a, n), new(big.Int).Exp(bigOf(a), bigOf(n), bigOf(m.P())), m.P(), "Pow", a, n)
}

func TestGreatPowers(t *testing.T) {
	for _, p := range great {
		m := mod(t, p)
		for _, a := range wordsAt(p) {
			for _, n := range []uint64{0, 1, 2, 3, 4, 7, 64, p - 2, p - 1, p, p + 1, 1<<32 - 1, 1 << 32, half - 1, half, half + 1, most - 1, most} {
				checkPow(t, m, a, n)
			}
		}
	}
}

func TestPowersByHand(t *testing.T) {
	for _, p := range great {
		m := mod(t, p)
		for _, n := range []uint64{1, 2, p, half, most} {
			is(t, "0 to the n", m.Pow(0, n), 0)
			is(t, "p to the n", m.Pow(p, n), 0)
			is(t, "1 to the n", m.Pow(1, n), 1)
			is(t, "p + 1 to the n", m.Pow(p+1, n), 1)
		}
		for _, a := range wordsAt(p) {
			is(t, "a to the 0", m.Pow(a, 0), 1)
			is(t, "a to the 1", m.Pow(a, 1), a%p)
			is(t, "a to the 2", m.Pow(a, 2), m.Mul(a, a))
		}
		is(t, "p - 1 to the most", m.Pow(p-1, most), p-1)
		is(t, "p - 1 to the most - 1", m.Pow(p-1, most-1), 1)
	}
	m := mod(t, greatestPrime)
	is(t, "Fermat's", m.Pow(3, greatestPrime-1), 1)
	is(t, "2 to the 62", m.Pow(2, 62), 57)
	is(t, "2 to the 61", m.Pow(2, 61), 1<<61)
}

func checkInv(t *testing.T, m *modw.Mod, a uint64) {
	t.Helper()
	p := m.P()
	b, ok := m.Inv(a)
	asked := new(big.Int).ModInverse(bigOf(a%p), bigOf(p))
	if ok != (asked != nil) {
		t.Fatalf("p %d, Inv(%d): %v", p, a, ok)
	}
	if !ok {
		asked = new(big.Int)
	}
	want(t, b, asked, p, "Inv", a)
}

func TestGreatInverses(t *testing.T) {
	s := source(62)
	for _, p := range great {
		m := mod(t, p)
		for _, a := range append(wordsAt(p), s.row(200)...) {
			checkInv(t, m, a)
		}
		for _, a := range []uint64{0, p, 2 * p, 3 * p, most / p * p} {
			if b, ok := m.Inv(a); b != 0 || ok {
				t.Errorf("p %d, Inv(%d): %d, %v", p, a, b, ok)
			}
		}
		for _, a := range []uint64{1, p - 1, p + 1, 2*p - 1} {
			if b, ok := m.Inv(a); b != a%p || !ok {
				t.Errorf("p %d, Inv(%d): %d, %v", p, a, b, ok)
			}
		}
	}
}

func TestNoInverse(t *testing.T) {
	rows := []struct{ p, divisor uint64 }{
		{9, 3}, {15, 3}, {15, 5}, {21, 3}, {21, 7},
		{4052555153018976267, 3}, {4052555153018976267, 1350851717672992089},
		{(1<<31 - 1) * (1<<31 - 1), 1<<31 - 1},
		{greatest, 3}, {greatest, 715827883}, {greatest, 2147483647}, {greatest, greatest / 3},
	}
	for _, r := range rows {
		m := mod(t, r.p)
		if r.p%r.divisor != 0 {
			t.Fatal(r)
		}
		for _, times := range []uint64{1, 2, 5, r.p/r.divisor - 1, r.p / r.divisor, r.p/r.divisor + 1, most / r.divisor} {
			a := r.divisor * times
			if b, ok := m.Inv(a); b != 0 || ok {
				t.Errorf("p %d, Inv(%d): %d, %v", r.p, a, b, ok)
			}
			checkInv(t, m, a-1)
			checkInv(t, m, a+1)
		}
	}
}

func TestLongestInverse(t *testing.T) {
	// Neighbours of Fibonacci's row take the most of Euclid's steps.
	a, b := uint64(1), uint64(2)
	for b < api.MaxMod {
		if b%2 == 1 && b > 2 {
			m := mod(t, b)
			checkInv(t, m, a)
			checkInv(t, m, b-a)
		}
		a, b = b, a+b
	}
}

func checkList(t *testing.T, m *modw.Mod, list []uint64) {
	t.Helper()
	sum, product := new(big.Int), big.NewInt(1)
	for _, a := range list {
		sum.Add(sum, bigOf(a))
		product.Mul(product, bigOf(a)).Mod(product, bigOf(m.P()))
	}
	want(t, m.Sum(list...), sum, m.P(), "Sum", list...)
	want(t, m.Product(list...), product, m.P(), "Product", list...)
}

func TestLists(t *testing.T) {
	s := source(63)
	for _, p := range great {
		m := mod(t, p)
		is(t, "Sum of none", m.Sum(), 0)
		is(t, "Product of none", m.Product(), 1)
		is(t, "Sum of none", m.Sum(nil...), 0)
		is(t, "Product of none", m.Product([]uint64{}...), 1)
		for _, a := range wordsAt(p) {
			is(t, "Sum of one", m.Sum(a), a%p)
			is(t, "Product of one", m.Product(a), a%p)
		}
		for n := range 12 {
			checkList(t, m, s.row(n))
			checkList(t, m, slices.Repeat([]uint64{most}, n))
			checkList(t, m, slices.Repeat([]uint64{p - 1}, n))
			checkList(t, m, slices.Repeat([]uint64{p + 1}, n))
		}
		checkList(t, m, wordsAt(p)[1:9])
		checkList(t, m, wordsAt(p))
		checkList(t, m, slices.Repeat([]uint64{most}, api.MaxTerms))
		checkList(t, m, slices.Repeat([]uint64{p - 1, p - 2}, api.MaxTerms/2))
	}
	m := mod(t, 101)
	is(t, "Sum", m.Sum(100, 100, 5), 3)
	is(t, "Product", m.Product(2, 3, 5, 105), 19)
	is(t, "Product", m.Product(5, 0, 7), 0)
}

// R4: a list that is handed in is left, and what lies behind it is neither read nor written.
func TestListIsLeft(t *testing.T) {
	m := mod(t, greatestPrime)
	whole := []uint64{most, 3, greatestPrime, 8, 9, most, 0}
	kept := slices.Clone(whole)
	is(t, "Sum", m.Sum(whole[1:2]...), 3)
	is(t, "Product", m.Product(whole[3:5]...), 72)
	is(t, "Sum", m.Sum(whole[3:5]...), 17)
	if !slices.Equal(whole, kept) {
		t.Error("changed:", whole)
	}
	whole[3] = 1
	is(t, "Product", m.Product(whole[3:5]...), 9)
}

// P6.2

func checkMont(t *testing.T, m *modw.Mod, a, b uint64) {
	t.Helper()
	p, x, y := m.P(), bigOf(a), bigOf(b)
	want(t, m.Mont(a), new(big.Int).Mul(x, base()), p, "Mont", a)
	over := new(big.Int).ModInverse(base(), bigOf(p))
	want(t, m.Back(a), new(big.Int).Mul(x, over), p, "Back", a)
	want(t, m.MontMul(a, b), over.Mul(over, x).Mul(over, y), p, "MontMul", a, b)
	is(t, "Back(Mont)", m.Back(m.Mont(a)), a%p)
	is(t, "Mont(Back)", m.Mont(m.Back(a)), a%p)
	is(t, "MontMul of forms", m.MontMul(m.Mont(a), m.Mont(b)), m.Mont(m.Mul(a, b)))
	is(t, "MontMul of a form", m.MontMul(m.Mont(a), b), m.Mul(a, b))
	is(t, "MontMul of a form", m.MontMul(a, m.Mont(b)), m.Mul(a, b))
}

func TestMont(t *testing.T) {
	for _, p := range great {
		m := mod(t, p)
		for _, a := range wordsAt(p) {
			for _, b := range wordsAt(p) {
				checkMont(t, m, a, b)
			}
		}
		is(t, "Mont(0)", m.Mont(0), 0)
		is(t, "Back(0)", m.Back(0), 0)
		is(t, "Mont(p)", m.Mont(p), 0)
		is(t, "Back(p)", m.Back(p), 0)
	}
}

func TestSmallMont(t *testing.T) {
	for p := uint64(3); p < 60; p += 2 {
		m := mod(t, p)
		b := (most%p + 1) % p
		for x := range 2*p + 2 {
			is(t, "Mont", m.Mont(x), x*b%p)
			if back := m.Back(x); back >= p || back*b%p != x%p {
				t.Errorf("p %d, Back(%d): %d", p, x, back)
			}
			for y := range 2*p + 2 {
				if over := m.MontMul(x, y); over >= p || over*b%p != x*y%p {
					t.Errorf("p %d, MontMul(%d, %d): %d", p, x, y, over)
				}
			}
		}
	}
}

// P6.3

func checkShoup(t *testing.T, m *modw.Mod, a, w uint64) {
	t.Helper()
	p := m.P()
	s := m.Shoup(w)
	over := new(big.Int).Mul(bigOf(w%p), base())
	if asked := over.Div(over, bigOf(p)); asked.Cmp(bigOf(s)) != 0 {
		t.Fatalf("p %d, Shoup(%d): got %d, want %d", p, w, s, asked)
	}
	want(t, m.ShoupMul(a, w, s), new(big.Int).Mul(bigOf(a), bigOf(w)), p, "ShoupMul", a, w)
}

func TestShoup(t *testing.T) {
	for _, p := range great {
		m := mod(t, p)
		for _, a := range wordsAt(p) {
			for _, w := range wordsAt(p) {
				checkShoup(t, m, a, w)
			}
		}
		is(t, "Shoup(0)", m.Shoup(0), 0)
		is(t, "Shoup(p)", m.Shoup(p), 0)
		is(t, "Shoup(1)", m.Shoup(1), most/p) // p is odd: it does not divide B
		is(t, "Shoup(p + 1)", m.Shoup(p+1), most/p)
		is(t, "Shoup(p - 1)", m.Shoup(p-1), most-most/p)
	}
	m := mod(t, greatestPrime)
	is(t, "Shoup(1)", m.Shoup(1), 4)
	is(t, "Shoup(2)", m.Shoup(2), 8)
}

func TestSmallShoup(t *testing.T) {
	for p := uint64(3); p < 60; p += 2 {
		m := mod(t, p)
		for a := range 2*p + 2 {
			for w := range 2*p + 2 {
				is(t, "ShoupMul", m.ShoupMul(a, w, m.Shoup(w)), a*w%p)
			}
		}
	}
}

// With another s nothing is promised but that it ends, and that later calls are as ever.
func TestAnotherShoup(t *testing.T) {
	for _, p := range great {
		m := mod(t, p)
		for _, a := range wordsAt(p) {
			for _, w := range wordsAt(p) {
				for _, s := range []uint64{0, 1, p - 1, p, half, most, m.Shoup(w) - 1, m.Shoup(w) + 1, m.Shoup(a)} {
					m.ShoupMul(a, w, s)
				}
			}
			checkShoup(t, m, a, most)
		}
		is(t, "P", m.P(), p)
	}
}

// R5: of two moduli neither knows of the other, and an answer is the same at each call.
func TestTwoModuli(t *testing.T) {
	one, other := mod(t, 101), mod(t, greatest)
	again := mod(t, 101)
	for _, a := range wordsAt(101) {
		for _, b := range wordsAt(greatest) {
			checkPair(t, one, a, b)
			checkPair(t, other, a, b)
			checkMont(t, one, a, b)
			checkMont(t, other, a, b)
			is(t, "Mul", again.Mul(a, b), one.Mul(a, b))
			is(t, "Pow", again.Pow(a, b), one.Pow(a, b))
		}
	}
	is(t, "P", one.P(), 101)
	is(t, "P", other.P(), greatest)
}
