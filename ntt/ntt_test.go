package ntt_test

import (
	"math"
	"math/bits"
	"slices"
	"testing"

	"ziggurat/api"
	"ziggurat/meter"
	"ziggurat/modw"
	"ziggurat/ntt"
	"ziggurat/prime"
)

const (
	half = uint64(1) << 63
	most = ^uint64(0)

	// The three great primes, and the greatest one below MaxMod.
	first    = uint64(5)<<55 + 1
	second   = uint64(27)<<56 + 1
	third    = uint64(29)<<57 + 1
	greatest = uint64(1)<<62 - 57
)

var (
	small = []uint64{3, 17, 97, 193, 257, 769, 12289, 65537}
	great = []uint64{first, second, third}
	all   = append(slices.Clone(small), great...)
)

// source is a row of words that is the same in every run.
type source uint64

func (s *source) next() uint64 {
	*s = *s*6364136223846793005 + 1442695040888963407
	x := uint64(*s)
	return (x ^ x>>29) * 0x9e3779b97f4a7c15
}

func (s *source) row(n int) []uint64 {
	a := make([]uint64, n)
	for i := range a {
		a[i] = s.next()
	}
	return a
}

// rows are rows of n numbers, of all kinds: noughts alone, a lone number, numbers at and above p, the greatest words, and many.
func rows(n int, p uint64) [][]uint64 {
	s := source(80 + n)
	list := [][]uint64{make([]uint64, n), s.row(n), s.row(n)}
	for _, x := range []uint64{1, p - 1, p, p + 1, 2*p - 1, 2 * p, half, most - 1, most, most / p * p} {
		list = append(list, slices.Repeat([]uint64{x}, n))
	}
	for _, place := range []int{0, 1, n / 2, n - 1} {
		for _, x := range []uint64{1, p - 1, p, most} {
			a := make([]uint64, n)
			a[place%n] = x
			list = append(list, a)
		}
	}
	mixed, residues, counted := s.row(n), s.row(n), make([]uint64, n)
	edges := []uint64{0, 1, p - 1, p, p + 1, 2*p - 1, 2 * p, half, most}
	for i := range n {
		mixed[i] = edges[mixed[i]%uint64(len(edges))]
		residues[i] %= p
		counted[i] = uint64(i)
	}
	return append(list, mixed, residues, counted)
}

// What is asked, reckoned by the library's double words alone.

func plus(a, b, p uint64) uint64 {
	sum, carry := bits.Add64(a, b, 0)
	return bits.Rem64(carry, sum, p)
}

func times(a, b, p uint64) uint64 {
	hi, lo := bits.Mul64(a, b)
	return bits.Rem64(hi, lo, p)
}

func powerOf(a, n, p uint64) uint64 {
	out := uint64(1)
	for ; n > 0; n /= 2 {
		if n%2 == 1 {
			out = times(out, a, p)
		}
		a = times(a, a, p)
	}
	return out
}

// powersOf are w to the 0, 1, and so on to n - 1.
func powersOf(w uint64, n int, p uint64) []uint64 {
	list := make([]uint64, n)
	power := uint64(1)
	for i := range list {
		list[i] = power
		power = times(power, w, p)
	}
	return list
}

// sumOf is the sum of all a[j] times w to the j k, where powers are those of w.
func sumOf(a, powers []uint64, k int, p uint64) uint64 {
	sum := uint64(0)
	for j, x := range a {
		sum = plus(sum, times(x, powers[j*k%len(powers)], p), p)
	}
	return sum
}

// transformed is Forward of a by its definition.
func transformed(a []uint64, w, p uint64) []uint64 {
	powers := powersOf(w, len(a), p)
	list := make([]uint64, len(a))
	for k := range list {
		list[k] = sumOf(a, powers, k, p)
	}
	return list
}

// sumsBy are the sums of a[i] b[j] with i + j = k, modulo n (at least as long as all sums: without going round).
func sumsBy(a, b []uint64, n int, p uint64) []uint64 {
	list := make([]uint64, n)
	for i, x := range a {
		for j, y := range b {
			k := (i + j) % n
			list[k] = plus(list[k], times(x, y, p), p)
		}
	}
	return list
}

func residues(a []uint64, p uint64) []uint64 {
	list := make([]uint64, len(a))
	for i, x := range a {
		list[i] = x % p
	}
	return list
}

// logs are those that p has roots for, to the greatest one asked.
func logs(p uint64, last int) []int {
	var list []int
	for log := 0; log <= min(last, bits.TrailingZeros64(p-1)); log++ {
		list = append(list, log)
	}
	return list
}

func plan(t *testing.T, m *meter.Meter, p uint64, log int) *ntt.Plan {
	t.Helper()
	x, e := ntt.New(m, p, log)
	if e != api.OK || x == nil {
		t.Fatalf("New(%d, %d): %v, error %d", p, log, x, e)
	}
	return x
}

func newPlan(t *testing.T, p uint64, log int) *ntt.Plan {
	t.Helper()
	return plan(t, &meter.Meter{}, p, log)
}

func rootOf(t *testing.T, p uint64, log int) uint64 {
	t.Helper()
	w, e := prime.Root(p, log)
	if e != api.OK {
		t.Fatal(p, log, e)
	}
	return w
}

// is holds an answer, and what was spent by it, against what is asked.
func is(t *testing.T, x *ntt.Plan, name string, got []uint64, ok bool, asked []uint64, spent int) {
	t.Helper()
	if !ok || !slices.Equal(got, asked) {
		t.Fatalf("p %d, N %d, %s: got %v, %v, want %v", x.P(), x.Size(), name, got, ok, asked)
	}
	if x.Muls() != spent {
		t.Fatalf("p %d, N %d, %s: spent %d, want %d", x.P(), x.Size(), name, x.Muls(), spent)
	}
	x.Reset()
}

func forward(t *testing.T, x *ntt.Plan, a, asked []uint64) {
	t.Helper()
	got, ok := x.Forward(a)
	is(t, x, "Forward", got, ok, asked, forwardCost(x.Size()))
}

func inverse(t *testing.T, x *ntt.Plan, a, asked []uint64) {
	t.Helper()
	got, ok := x.Inverse(a)
	is(t, x, "Inverse", got, ok, asked, inverseCost(x.Size()))
}

func cyclic(t *testing.T, x *ntt.Plan, a, b []uint64) {
	t.Helper()
	got, ok := x.Cyclic(a, b)
	is(t, x, "Cyclic", got, ok, sumsBy(a, b, x.Size(), x.P()), productCost(x.Size()))
}

func conv(t *testing.T, x *ntt.Plan, a, b []uint64) {
	t.Helper()
	got, ok := x.Conv(a, b)
	is(t, x, "Conv", got, ok, sumsBy(a, b, len(a)+len(b)-1, x.P()), productCost(x.Size()))
}

// What each call spends, by how many numbers a row has: (N / 2) log, (N / 2) log + N, 3 (N / 2) log + 2 N, for logs from 0 on.
var (
	forwardCosts = []int{0, 1, 4, 12, 32, 80, 192, 448, 1024, 2304, 5120}
	inverseCosts = []int{1, 3, 8, 20, 48, 112, 256, 576, 1280, 2816, 6144}
	productCosts = []int{2, 7, 20, 52, 128, 304, 704, 1600, 3584, 7936, 17408}
)

func logOf(n int) int          { return bits.Len(uint(n)) - 1 }
func forwardCost(n int) int    { return forwardCosts[logOf(n)] }
func inverseCost(n int) int    { return inverseCosts[logOf(n)] }
func productCost(n int) int    { return productCosts[logOf(n)] }
func none(a []uint64) bool     { return len(a) == 0 }
func room(a []uint64) []uint64 { return a[:cap(a)] }

// P8.1: New, Size

func TestNewErrors(t *testing.T) {
	noPrimes := []uint64{
		0, 1, 2, 4, 6, 8, 16, 34, 1 << 20, 1 << 32, 1 << 61, greatest - 1, greatest + 1, 1 << 62, half, most - 1,
		9, 15, 21, 25, 33, 49, 65, 129, 561, 1025, 2047, 65535, 3215031751, 1<<32 + 1, 3 * first, 3825123056546413051,
		1<<62 - 1, 1<<62 + 1, 1<<62 + 135, 1<<63 - 25, 1<<63 + 29, most - 58, most,
	}
	badLogs := []int{-1, -2, -64, math.MinInt, api.MaxLog + 1, 22, 32, 55, 56, 57, 58, 62, 63, 64, 65, 1 << 32, math.MaxInt}
	m := &meter.Meter{}
	fails := func(p uint64, log int, asked api.Errno) {
		t.Helper()
		if x, e := ntt.New(m, p, log); x != nil || e != asked {
			t.Errorf("New(%d, %d): %v, error %d, want error %d", p, log, x, e, asked)
		}
	}
	for _, p := range noPrimes {
		for log := 0; log <= api.MaxLog; log++ {
			fails(p, log, api.ErrMod)
		}
		for _, log := range badLogs { // both would hold: the modulus stands first
			fails(p, log, api.ErrMod)
		}
	}
	for _, p := range append([]uint64{5, 7, 11, 7340033, 1<<61 - 1, greatest}, all...) {
		for _, log := range badLogs {
			fails(p, log, api.ErrArg)
		}
		for log := bits.TrailingZeros64(p-1) + 1; log <= api.MaxLog+1; log++ {
			fails(p, log, api.ErrArg)
		}
	}
	if *m != (meter.Meter{}) {
		t.Error("spent:", *m)
	}
}

// As prime.Root, at each small number and each log.
func TestNewAsRoot(t *testing.T) {
	for p := range uint64(800) {
		for log := -1; log <= 11; log++ {
			_, asked := prime.Root(p, log)
			x, e := ntt.New(&meter.Meter{}, p, log)
			if e != asked || (x != nil) != (e == api.OK) {
				t.Fatalf("New(%d, %d): %v, error %d, want error %d", p, log, x, e, asked)
			}
			if x != nil && (x.P() != p || x.Size() != 1<<log) {
				t.Fatalf("New(%d, %d): P %d, Size %d", p, log, x.P(), x.Size())
			}
		}
	}
}

func TestSize(t *testing.T) {
	sizes := []int{1, 2, 4, 8, 16, 32, 64, 128, 256, 512, 1024, 2048, 4096, 8192, 16384, 32768, 65536, 131072, 262144, 524288, 1048576}
	for _, p := range append([]uint64{5, 7, 7340033, 1<<61 - 1, greatest}, all...) {
		for _, log := range logs(p, api.MaxLog) {
			x := newPlan(t, p, log)
			if x.Size() != sizes[log] || x.P() != p {
				t.Errorf("New(%d, %d): Size %d, P %d", p, log, x.Size(), x.P())
			}
		}
	}
}

// New and Size spend nothing, and leave what was spent, and the level.
func TestNewSpendsNothing(t *testing.T) {
	m := &meter.Meter{}
	for range 3 {
		m.Enter()
	}
	m.Leave()
	m.Spend(41)
	asked := *m
	for _, p := range all {
		for _, log := range logs(p, 10) {
			x := plan(t, m, p, log)
			x.Size()
			if *m != asked || x.Muls() != 41 || x.Now() != 2 || x.Deep() != 3 {
				t.Fatalf("New(%d, %d): %v", p, log, *m)
			}
		}
	}
}

// Ways: the calls of both that are embedded are the plan's own.
func TestPromoted(t *testing.T) {
	var (
		_ interface {
			P() uint64
			Red(uint64) uint64
			Inv(uint64) (uint64, bool)
			Sum(...uint64) uint64
			ShoupMul(a, w, s uint64) uint64
		} = (*ntt.Plan)(nil)
		_ interface {
			Spend(int) int
			Muls() int
			Enter() int
			Leave() int
			Deep() int
			Now() int
			Reset()
		} = (*ntt.Plan)(nil)
	)
	m := &meter.Meter{}
	for _, p := range []uint64{97, third} {
		m.Reset()
		x := plan(t, m, p, 3)
		mod, _ := modw.New(p)
		checkReckons(t, x, mod)
		if x.Meter != m || x.Spend(5) != 5 || m.Spend(7) != 12 || x.Muls() != 12 || x.Enter() != 1 || m.Enter() != 2 || x.Leave() != 1 || x.Now() != 1 || x.Deep() != 2 {
			t.Error("meter:", *m)
		}
		x.Reset()
		if *m != (meter.Meter{}) {
			t.Error("Reset:", *m)
		}
	}
}

// checkReckons holds the plan's own residues against those of a modulus of its own; they spend nothing.
func checkReckons(t *testing.T, x *ntt.Plan, mod *modw.Mod) {
	t.Helper()
	s := source(81)
	for range 100 {
		a, b := s.next(), s.next()
		inverse, ok := x.Inv(a)
		asked, there := mod.Inv(a)
		if inverse != asked || ok != there || x.Red(a) != mod.Red(a) || x.Neg(a) != mod.Neg(a) || x.Mont(a) != mod.Mont(a) || x.Back(a) != mod.Back(a) || x.Shoup(a) != mod.Shoup(a) {
			t.Fatal("of", a)
		}
		if x.Add(a, b) != mod.Add(a, b) || x.Sub(a, b) != mod.Sub(a, b) || x.Mul(a, b) != mod.Mul(a, b) || x.Pow(a, b) != mod.Pow(a, b) || x.MontMul(a, b) != mod.MontMul(a, b) {
			t.Fatal("of", a, b)
		}
		if x.ShoupMul(a, b, x.Shoup(b)) != mod.Mul(a, b) || x.Sum(a, b, a) != mod.Sum(a, b, a) || x.Product(a, b, a) != mod.Product(a, b, a) {
			t.Fatal("of", a, b)
		}
	}
	if x.P() != mod.P() || x.Muls() != 0 {
		t.Error("P:", x.P(), "spent:", x.Muls())
	}
}

// P8.1: Forward, Inverse

func TestExamples(t *testing.T) {
	for _, p := range []uint64{7, 17, first, greatest} {
		forward(t, newPlan(t, p, 0), []uint64{5}, []uint64{5})
	}
	forward(t, newPlan(t, 17, 1), []uint64{1, 2}, []uint64{3, 16})
}

// w is 2 (p 3, log 1), 16, 13, 9 (p 17, logs 1 to 3).
func TestTransformByHand(t *testing.T) {
	list := []struct {
		p       uint64
		a, made []uint64
	}{
		{3, []uint64{2}, []uint64{2}},
		{3, []uint64{5}, []uint64{2}},
		{3, []uint64{1, 1}, []uint64{2, 0}},
		{3, []uint64{1, 2}, []uint64{0, 2}},
		{3, []uint64{4, 8}, []uint64{0, 2}},
		{17, []uint64{16}, []uint64{16}},
		{17, []uint64{17}, []uint64{0}},
		{17, []uint64{3, 16}, []uint64{2, 4}},
		{17, []uint64{0, 1, 0, 0}, []uint64{1, 13, 16, 4}},
		{17, []uint64{0, 0, 1, 0}, []uint64{1, 16, 1, 16}},
		{17, []uint64{0, 0, 0, 1}, []uint64{1, 4, 16, 13}},
		{17, []uint64{1, 2, 3, 4}, []uint64{10, 6, 15, 7}},
		{17, []uint64{18, 19, 20, 21}, []uint64{10, 6, 15, 7}},
		{17, []uint64{1, 0, 0, 0, 0, 0, 0, 0}, []uint64{1, 1, 1, 1, 1, 1, 1, 1}},
		{17, []uint64{0, 1, 0, 0, 0, 0, 0, 0}, []uint64{1, 9, 13, 15, 16, 8, 4, 2}},
		{17, []uint64{2, 2, 2, 2, 2, 2, 2, 2}, []uint64{16, 0, 0, 0, 0, 0, 0, 0}},
	}
	for _, r := range list {
		x := newPlan(t, r.p, logOf(len(r.a)))
		forward(t, x, r.a, r.made)
		inverse(t, x, r.made, residues(r.a, r.p))
	}
}

// checkTransform holds both ways of one row against the definition.
func checkTransform(t *testing.T, x *ntt.Plan, a []uint64, w uint64) {
	t.Helper()
	p := x.P()
	made := transformed(a, w, p)
	forward(t, x, a, made)
	inverse(t, x, made, residues(a, p))
	back, ok := x.Inverse(a) // of a row that need not be below p
	x.Reset()
	if !ok || !slices.Equal(transformed(back, w, p), residues(a, p)) {
		t.Fatalf("p %d, Inverse of %v: %v, %v", p, a, back, ok)
	}
	for _, y := range back {
		if y >= p {
			t.Fatalf("p %d, Inverse of %v: %v", p, a, back)
		}
	}
	forward(t, x, back, residues(a, p))
}

func TestTransformSmall(t *testing.T) {
	for _, p := range append([]uint64{5, 7, 11, 1<<61 - 1, greatest}, all...) {
		for _, log := range logs(p, 6) {
			x := newPlan(t, p, log)
			w := rootOf(t, p, log)
			for _, a := range rows(x.Size(), p) {
				checkTransform(t, x, a, w)
			}
		}
	}
}

// Each row of residues, and of those above p too.
func TestTransformEach(t *testing.T) {
	for _, r := range []struct {
		p   uint64
		log int
	}{{3, 1}, {5, 2}, {7, 1}, {17, 1}} {
		p := r.p
		x := newPlan(t, p, r.log)
		w := rootOf(t, p, r.log)
		a := make([]uint64, x.Size())
		for {
			checkTransform(t, x, a, w)
			i := 0
			for ; i < len(a) && a[i] == p+1; i++ {
				a[i] = 0
			}
			if i == len(a) {
				break
			}
			a[i]++
		}
	}
}

func TestTransformGreat(t *testing.T) {
	for _, p := range append([]uint64{12289, 65537, 7340033}, great...) {
		for _, log := range []int{7, 8, 9, 10} {
			x := newPlan(t, p, log)
			s := source(82)
			list := [][]uint64{s.row(x.Size())}
			if log == 8 {
				list = append(list, slices.Repeat([]uint64{most}, x.Size()), slices.Repeat([]uint64{p - 1, 0}, x.Size()/2))
			}
			for _, a := range list {
				made := transformed(a, rootOf(t, p, log), p)
				forward(t, x, a, made)
				inverse(t, x, made, residues(a, p))
			}
		}
	}
}

// At the greatest lengths some numbers are held against their sums, and all by going there and back.
func TestTransformGreatest(t *testing.T) {
	for log := 11; log <= api.MaxLog; log++ {
		p := great[log%3]
		x := newPlan(t, p, log)
		n := x.Size()
		s := source(83)
		a := s.row(n)
		made, ok := x.Forward(a)
		if !ok || len(made) != n || x.Muls() != n/2*log {
			t.Fatal("Forward:", log, ok, len(made), x.Muls())
		}
		powers := powersOf(rootOf(t, p, log), n, p)
		for _, k := range []int{0, 1, 2, n/2 - 1, n / 2, n/2 + 1, n - 1, int(s.next() % uint64(n))} {
			if asked := sumOf(a, powers, k, p); made[k] != asked {
				t.Fatalf("log %d, Forward at %d: %d, want %d", log, k, made[k], asked)
			}
		}
		x.Reset()
		back, ok := x.Inverse(made)
		if !ok || x.Muls() != n/2*log+n || !slices.Equal(back, residues(a, p)) {
			t.Fatal("Inverse:", log, ok, x.Muls())
		}
	}
}

// A lone 1 at the place j makes the powers of w to the j: by them w is told from another root of the same order.
func TestTransformTellsRoot(t *testing.T) {
	for _, p := range all {
		for _, log := range logs(p, 9)[1:] {
			x := newPlan(t, p, log)
			w := rootOf(t, p, log)
			for _, j := range []int{1, x.Size() - 1, x.Size() / 2} {
				a := make([]uint64, x.Size())
				a[j] = 1
				made := powersOf(powerOf(w, uint64(j), p), x.Size(), p)
				forward(t, x, a, made)
				inverse(t, x, made, a)
			}
		}
	}
}

// The transform of a sum is the sum of the transforms.
func TestTransformOfSums(t *testing.T) {
	s := source(84)
	for _, p := range all {
		x := newPlan(t, p, logs(p, 5)[len(logs(p, 5))-1])
		a, b := s.row(x.Size()), s.row(x.Size())
		sum := make([]uint64, x.Size())
		for i := range sum {
			sum[i] = plus(a[i], b[i], p)
		}
		made, _ := x.Forward(a)
		other, _ := x.Forward(b)
		both, _ := x.Forward(sum)
		for i := range both {
			if both[i] != plus(made[i], other[i], p) {
				t.Fatal(p, i)
			}
		}
	}
}

// wrongLengths are those of rows that have not n numbers.
func wrongLengths(n int) []int {
	var list []int
	for _, k := range []int{0, 1, 2, 3, n / 2, n/2 + 1, n - 2, n - 1, n + 1, n + 2, n * 3 / 2, 2*n - 1, 2 * n, 2*n + 1, 4 * n} {
		if k >= 0 && k != n {
			list = append(list, k)
		}
	}
	return list
}

// refused holds that a call says false, and that nothing stands beside and nothing is spent.
func refused(t *testing.T, x *ntt.Plan, name string, got []uint64, ok bool) {
	t.Helper()
	if ok || !none(got) || *x.Meter != (meter.Meter{}) {
		t.Errorf("p %d, N %d, %s: %v, %v, spent %d", x.P(), x.Size(), name, got, ok, x.Muls())
	}
}

func TestTransformRefuses(t *testing.T) {
	s := source(85)
	for _, p := range all {
		for _, log := range logs(p, 7) {
			x := newPlan(t, p, log)
			n := x.Size()
			list := [][]uint64{nil, {}, s.row(n)[:0], s.row(2 * n)[:n-1], s.row(2 * n)[:n+1]}
			for _, k := range wrongLengths(n) {
				list = append(list, s.row(k), make([]uint64, k))
			}
			for _, a := range list {
				got, ok := x.Forward(a)
				refused(t, x, "Forward", got, ok)
				got, ok = x.Inverse(a)
				refused(t, x, "Inverse", got, ok)
			}
			checkTransform(t, x, s.row(n), rootOf(t, p, log)) // as ever behind it
		}
	}
}

// P8.2

func TestCyclicByHand(t *testing.T) {
	list := []struct {
		p           uint64
		a, b, asked []uint64
	}{
		{17, []uint64{5}, []uint64{7}, []uint64{1}},
		{17, []uint64{1, 2}, []uint64{3, 4}, []uint64{11, 10}},
		{17, []uint64{1, 2, 3, 4}, []uint64{5, 6, 7, 8}, []uint64{15, 0, 15, 9}},
		{17, []uint64{18, 19, 20, 21}, []uint64{22, 23, 24, 25}, []uint64{15, 0, 15, 9}},
		{17, []uint64{1, 2, 3, 4}, []uint64{0, 1, 0, 0}, []uint64{4, 1, 2, 3}},
		{97, []uint64{1, 2, 3, 4}, []uint64{5, 6, 7, 8}, []uint64{66, 68, 66, 60}},
		{first, []uint64{1, 2, 3, 4}, []uint64{5, 6, 7, 8}, []uint64{66, 68, 66, 60}},
	}
	for _, r := range list {
		x := newPlan(t, r.p, logOf(len(r.a)))
		got, ok := x.Cyclic(r.a, r.b)
		is(t, x, "Cyclic", got, ok, r.asked, productCost(len(r.a)))
	}
}

func TestConvByHand(t *testing.T) {
	list := []struct {
		p           uint64
		log         int
		a, b, asked []uint64
	}{
		{17, 0, []uint64{5}, []uint64{7}, []uint64{1}},
		{17, 1, []uint64{1, 2}, []uint64{3}, []uint64{3, 6}},
		{17, 2, []uint64{1, 2}, []uint64{3, 4}, []uint64{3, 10, 8}},
		{17, 2, []uint64{1, 2, 3}, []uint64{4, 5}, []uint64{4, 13, 5, 15}},
		{97, 3, []uint64{1, 2, 3, 4}, []uint64{5, 6, 7, 8}, []uint64{5, 16, 34, 60, 61, 52, 32}},
		{third, 3, []uint64{1, 2, 3, 4}, []uint64{5, 6, 7, 8}, []uint64{5, 16, 34, 60, 61, 52, 32}},
		{17, 2, []uint64{0}, []uint64{0, 0}, []uint64{0, 0}},
		{17, 2, []uint64{0, 17}, []uint64{0, 34}, []uint64{0, 0, 0}},
	}
	for _, r := range list {
		x := newPlan(t, r.p, r.log)
		got, ok := x.Conv(r.a, r.b)
		is(t, x, "Conv", got, ok, r.asked, productCost(1<<r.log))
		got, ok = x.Conv(r.b, r.a)
		is(t, x, "Conv", got, ok, r.asked, productCost(1<<r.log))
	}
}

func TestCyclicSmall(t *testing.T) {
	for _, p := range append([]uint64{5, 7, 11, 1<<61 - 1, greatest}, all...) {
		for _, log := range logs(p, 5) {
			x := newPlan(t, p, log)
			list := rows(x.Size(), p)
			for i, a := range list {
				cyclic(t, x, a, a)
				for _, b := range [][]uint64{list[(i+1)%len(list)], list[2], list[len(list)-1-i]} {
					cyclic(t, x, a, b)
					cyclic(t, x, b, a)
				}
			}
		}
	}
}

// Each two lengths that have room, and each two beside them.
func TestConvSmall(t *testing.T) {
	s := source(86)
	for _, p := range append([]uint64{5, 7, 11, 1<<61 - 1, greatest}, all...) {
		for _, log := range logs(p, 4) {
			x := newPlan(t, p, log)
			n := x.Size()
			for i := range n + 3 {
				for j := range n + 3 {
					a, b := s.row(i), s.row(j)
					if i > 0 && j > 0 && i+j <= n+1 {
						conv(t, x, a, b)
						conv(t, x, slices.Repeat([]uint64{most}, i), slices.Repeat([]uint64{p - 1}, j))
						continue
					}
					got, ok := x.Conv(a, b)
					refused(t, x, "Conv", got, ok)
				}
			}
		}
	}
}

func TestProductsGreat(t *testing.T) {
	s := source(87)
	for _, p := range append([]uint64{12289, 65537}, great...) {
		for log := 5; log <= 9; log++ {
			x := newPlan(t, p, log)
			n := x.Size()
			cyclic(t, x, s.row(n), s.row(n))
			for _, i := range []int{1, 2, n / 2, n/2 + 1, n - 1, n} {
				conv(t, x, s.row(i), s.row(n+1-i)) // just so
				if i < n {
					conv(t, x, s.row(i), s.row(n-i)) // one less
				}
				got, ok := x.Conv(s.row(i), s.row(n+2-i)) // one more
				refused(t, x, "Conv", got, ok)
			}
			conv(t, x, slices.Repeat([]uint64{most}, n/2), slices.Repeat([]uint64{most}, n/2+1))
			conv(t, x, slices.Repeat([]uint64{p - 1}, n/2), slices.Repeat([]uint64{p - 1}, n/2))
			conv(t, x, make([]uint64, n/2), s.row(n/2))
		}
	}
}

// At the greatest length: a row by two numbers, which is easy by hand.
func TestProductsGreatest(t *testing.T) {
	const cost = 3*(1<<19)*20 + 2*(1<<20)
	s := source(88)
	x := newPlan(t, second, api.MaxLog)
	n := x.Size()
	two, a := []uint64{most, second + 5}, s.row(n-1)
	got, ok := x.Conv(a, two)
	asked := sumsBy(a, two, n, second)
	if !ok || !slices.Equal(got, asked) || x.Muls() != cost {
		t.Error("Conv:", ok, len(got), x.Muls())
	}
	x.Reset()
	a, b := append(a, 77), append(two, make([]uint64, n-2)...)
	got, ok = x.Cyclic(a, b)
	if !ok || !slices.Equal(got, sumsBy(a, two, n, second)) || x.Muls() != cost {
		t.Error("Cyclic:", ok, len(got), x.Muls())
	}
}

func TestCyclicRefuses(t *testing.T) {
	s := source(89)
	for _, p := range all {
		for _, log := range logs(p, 6) {
			x := newPlan(t, p, log)
			n := x.Size()
			right := s.row(n)
			list := [][]uint64{nil, {}, s.row(2 * n)[:n-1], s.row(2 * n)[:n+1]}
			for _, k := range wrongLengths(n) {
				list = append(list, s.row(k))
			}
			for _, a := range list {
				got, ok := x.Cyclic(a, right)
				refused(t, x, "Cyclic", got, ok)
				got, ok = x.Cyclic(right, a)
				refused(t, x, "Cyclic", got, ok)
				got, ok = x.Cyclic(a, a)
				refused(t, x, "Cyclic", got, ok)
			}
			cyclic(t, x, right, right)
		}
	}
}

func TestConvRefuses(t *testing.T) {
	s := source(90)
	for _, p := range all {
		for _, log := range logs(p, 6) {
			x := newPlan(t, p, log)
			n := x.Size()
			for _, k := range []int{0, 1, n - 1, n, n + 1, n + 2, 2 * n} {
				for _, empty := range [][]uint64{nil, {}, s.row(n)[:0]} {
					got, ok := x.Conv(s.row(k), empty)
					refused(t, x, "Conv", got, ok)
					got, ok = x.Conv(empty, s.row(k))
					refused(t, x, "Conv", got, ok)
					got, ok = x.Conv(empty, empty)
					refused(t, x, "Conv", got, ok)
				}
				got, ok := x.Conv(s.row(k), s.row(n+2-min(k, n)))
				refused(t, x, "Conv", got, ok)
				got, ok = x.Conv(s.row(n+1), s.row(max(k, 1)))
				refused(t, x, "Conv", got, ok)
			}
			conv(t, x, s.row(n), s.row(1))
		}
	}
}

// A product of transforms is the transform of Cyclic.
func TestCyclicByTransforms(t *testing.T) {
	s := source(91)
	for _, p := range great {
		x := newPlan(t, p, 9)
		a, b := s.row(x.Size()), s.row(x.Size())
		product, _ := x.Cyclic(a, b)
		made, _ := x.Forward(a)
		other, _ := x.Forward(b)
		both, _ := x.Forward(product)
		for i := range both {
			if both[i] != times(made[i], other[i], p) {
				t.Fatal(p, i)
			}
		}
	}
}

// What is spent

func TestSpendsOnOneMeter(t *testing.T) {
	m := &meter.Meter{}
	m.Enter()
	m.Spend(1000)
	list := []*ntt.Plan{plan(t, m, 17, 4), plan(t, m, first, 0), plan(t, m, first, 3), plan(t, m, 17, 4), plan(t, m, third, 6)}
	asked := 1000
	spent := func(name string, x *ntt.Plan, n int) {
		t.Helper()
		asked += n
		if m.Muls() != asked || x.Muls() != asked || x.Now() != 1 || x.Deep() != 1 {
			t.Fatalf("%s, N %d: spent %d, want %d; level %d, %d", name, x.Size(), m.Muls(), asked, x.Now(), x.Deep())
		}
	}
	s := source(92)
	for range 2 {
		for _, x := range list {
			n := x.Size()
			a, b := s.row(n), s.row(n)
			x.Forward(a)
			spent("Forward", x, forwardCost(n))
			x.Inverse(a)
			spent("Inverse", x, inverseCost(n))
			x.Cyclic(a, b)
			spent("Cyclic", x, productCost(n))
			x.Conv(a[:1], b[:1])
			spent("Conv", x, productCost(n))
			x.Conv(a, b[:1])
			spent("Conv", x, productCost(n))
			x.Conv(a, append(b, 1))
			x.Conv(nil, a)
			x.Cyclic(a, append(b, 1))
			x.Cyclic(a, nil)
			x.Forward(append(b, 1))
			x.Inverse(nil)
			spent("false", x, 0)
		}
	}
}

// What is spent hangs on N alone, not on the numbers, nor on the modulus.
func TestSpendsWhateverTheNumbers(t *testing.T) {
	for _, p := range []uint64{257, second} {
		x := newPlan(t, p, 4)
		for _, a := range rows(16, p) {
			x.Forward(a)
			x.Inverse(a)
			x.Cyclic(a, a)
			x.Conv(a[:3], a[:14])
			if x.Muls() != 32+48+128+128 {
				t.Fatal(p, a, x.Muls())
			}
			x.Reset()
		}
	}
}

func TestTwoMeters(t *testing.T) {
	one, other := newPlan(t, 17, 3), newPlan(t, 17, 3)
	one.Forward(make([]uint64, 8))
	if one.Muls() != 12 || other.Muls() != 0 {
		t.Error(one.Muls(), other.Muls())
	}
	other.Inverse(make([]uint64, 8))
	one.Reset()
	if one.Muls() != 0 || other.Muls() != 20 {
		t.Error(one.Muls(), other.Muls())
	}
}

// R4, R5

// call is a call that answers a row, of two rows of N numbers.
type call struct {
	name string
	of   func(a, b []uint64) ([]uint64, bool)
}

func calls(x *ntt.Plan) []call {
	return []call{
		{"Forward", func(a, _ []uint64) ([]uint64, bool) { return x.Forward(a) }},
		{"Inverse", func(a, _ []uint64) ([]uint64, bool) { return x.Inverse(a) }},
		{"Cyclic", x.Cyclic},
		{"Conv", func(a, b []uint64) ([]uint64, bool) { return x.Conv(a, b[:1]) }},
		{"Conv of halves", func(a, b []uint64) ([]uint64, bool) { return x.Conv(a[:(len(a)+1)/2], b[:(len(b)+1)/2]) }},
	}
}

// What is handed in is not changed, nor is what lies behind its length, which is not read either.
func TestHandedInIsLeft(t *testing.T) {
	s := source(93)
	for _, p := range all {
		for _, log := range logs(p, 6) {
			x := newPlan(t, p, log)
			n := x.Size()
			for _, c := range calls(x) {
				a, b := s.row(3*n+2), s.row(3*n+2)
				keptA, keptB := slices.Clone(a), slices.Clone(b)
				got, ok := c.of(a[1:n+1], b[n:2*n])
				if !slices.Equal(a, keptA) || !slices.Equal(b, keptB) {
					t.Fatalf("p %d, N %d, %s: changed", p, n, c.name)
				}
				for i := range a { // what lies beside is another
					if i < 1 || i > n {
						a[i]++
					}
					if i < n || i >= 2*n {
						b[i]++
					}
				}
				again, ok2 := c.of(a[1:n+1], b[n:2*n])
				if !ok || !ok2 || !slices.Equal(got, again) {
					t.Fatalf("p %d, N %d, %s: %v, then %v", p, n, c.name, got, again)
				}
			}
		}
	}
}

// fill writes all of an answer's memory, its spare room too.
func fill(a []uint64) {
	for i := range room(a) {
		room(a)[i] = most - uint64(i)
	}
}

// What is written to an answer is seen neither in what was handed in, nor in another answer, nor by a later call.
func TestHandedOutIsNew(t *testing.T) {
	s := source(94)
	for _, p := range all {
		for _, log := range logs(p, 6) {
			x := newPlan(t, p, log)
			n := x.Size()
			for _, c := range calls(x) {
				a, b := s.row(n), s.row(n)
				keptA, keptB := slices.Clone(a), slices.Clone(b)
				one, _ := c.of(a, b)
				kept := slices.Clone(one)
				other, _ := c.of(a, b)
				fill(other)
				if !slices.Equal(one, kept) {
					t.Fatalf("p %d, N %d, %s: two answers share memory", p, n, c.name)
				}
				fill(one)
				if !slices.Equal(a, keptA) || !slices.Equal(b, keptB) {
					t.Fatalf("p %d, N %d, %s: shared with what was handed in", p, n, c.name)
				}
				if again, ok := c.of(a, b); !ok || !slices.Equal(again, kept) {
					t.Fatalf("p %d, N %d, %s: %v, then %v", p, n, c.name, kept, again)
				}
			}
		}
	}
}

// What is written to what was handed in is seen neither in the answer, nor by a later call.
func TestHandedInIsNotKept(t *testing.T) {
	s := source(95)
	for _, p := range []uint64{3, 17, 257, first} {
		for _, log := range logs(p, 5) {
			x := newPlan(t, p, log)
			for _, c := range calls(x) {
				a, b := s.row(x.Size()), s.row(x.Size())
				sameA, sameB := slices.Clone(a), slices.Clone(b)
				got, _ := c.of(a, b)
				kept := slices.Clone(got)
				fill(a)
				fill(b)
				again, _ := c.of(sameA, sameB)
				if !slices.Equal(got, kept) || !slices.Equal(again, kept) {
					t.Fatalf("p %d, N %d, %s: %v, %v, then %v", p, x.Size(), c.name, kept, got, again)
				}
			}
		}
	}
}

// Both may be one row, or overlap.
func TestOneRowTwice(t *testing.T) {
	s := source(96)
	for _, p := range []uint64{17, 12289, third} {
		x := newPlan(t, p, 4)
		a := s.row(24)
		kept := slices.Clone(a)
		cyclic(t, x, a[:16], a[:16])
		cyclic(t, x, a[:16], a[5:21])
		conv(t, x, a[:8], a[:8])
		conv(t, x, a[:9], a[4:12])
		if !slices.Equal(a, kept) {
			t.Error("changed:", p)
		}
	}
}

// Of several plans none knows of another; an answer is the same at each call, in whatever order.
func TestPlansApart(t *testing.T) {
	m := &meter.Meter{}
	s := source(97)
	list := []*ntt.Plan{plan(t, m, 97, 4), plan(t, m, second, 4), plan(t, m, 97, 5)}
	a, b := s.row(32), s.row(32)
	for range 3 {
		for _, x := range list {
			n := x.Size()
			m.Reset()
			made := transformed(a[:n], rootOf(t, x.P(), logOf(n)), x.P())
			forward(t, x, a[:n], made)
			inverse(t, x, made, residues(a[:n], x.P()))
			cyclic(t, x, a[:n], b[:n])
			conv(t, x, b[:n/2], a[:n/2+1])
		}
	}
}
