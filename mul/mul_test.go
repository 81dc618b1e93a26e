package mul_test

import (
	"fmt"
	"math"
	"math/big"
	"math/bits"
	"slices"
	"testing"

	"ziggurat/api"
	"ziggurat/mul"
	"ziggurat/school"
	"ziggurat/table"
	"ziggurat/toom"
)

const (
	half = uint64(1) << 63
	most = ^uint64(0)
)

// source is a row of words that is the same in every run; each fourth or so is at an edge.
type source uint64

func (s *source) next() uint64 {
	*s = *s*6364136223846793005 + 1442695040888963407
	x := uint64(*s)
	x ^= x >> 29
	switch x >> 59 {
	case 0, 1:
		return 0
	case 2, 3:
		return most
	case 4:
		return half
	case 5:
		return x & 3
	case 6:
		return most - x&3
	}
	return x * 0x9e3779b97f4a7c15
}

// row has n words, and none on top that is 0.
func (s *source) row(n int) api.Nat {
	a := make(api.Nat, n)
	for i := range a {
		a[i] = s.next()
	}
	if n > 0 {
		a[n-1] |= 1
	}
	return a
}

func same(x uint64, n int) api.Nat { return slices.Repeat(api.Nat{x}, n) }

// topped is a with n zero words on top, in new memory.
func topped(a api.Nat, n int) api.Nat { return slices.Concat(a, same(0, n)) }

// rows are rows of n words, of all kinds: any, the greatest words, lone words at either end, and noughts within; none has zero words on top.
func rows(n int) []api.Nat {
	s := source(70 + n)
	if n == 0 {
		return []api.Nat{nil}
	}
	lone, bottom, within, sparse := make(api.Nat, n), same(most, n), same(most, n), make(api.Nat, n)
	lone[n-1] = 1
	clear(bottom[:n/2])
	clear(within[n/3 : n-n/3])
	within[n-1] = most
	sparse[0], sparse[n-1] = most, half
	bottom[n-1] = most
	return []api.Nat{s.row(n), s.row(n), same(most, n), same(1, n), same(half, n), lone, bottom, within, sparse}
}

// tables send lengths each way: the zero table, those that go by hand, in two pieces, in three and by transforms wherever that may be, some between, and the least and the greatest numbers of all.
func tables() []api.Table {
	least, greatest := slices.Repeat([]int{math.MinInt}, 11), slices.Repeat([]int{math.MaxInt}, 11)
	return []api.Table{
		{},
		table.Least(4, 8192, 16384),
		table.Least(4, 12, 16384),
		table.Least(5, 13, 65, 5, 5, 3, 3, 5, 5, 3, 3),
		table.Least(9, 30, 150),
		table.Least(64, 12, 64),
		table.Least(24, 40, 200),
		table.Least(least...),
		table.Least(greatest...),
		table.Least(math.MinInt, math.MaxInt, math.MinInt, -1),
		table.Least(math.MaxInt, math.MinInt, math.MaxInt, 1),
	}
}

// byEach asks of every table, each in a test of its own.
func byEach(t *testing.T, f func(t *testing.T, x api.Table)) {
	by(t, tables(), f)
}

// byFew asks of three tables alone, where rows are so long that nearly all go by transforms, whatever the table.
func byFew(t *testing.T, f func(t *testing.T, x api.Table)) {
	by(t, []api.Table{{}, table.Least(32, 8192, 16384), table.Least(64, 12, 16384)}, f)
}

func by(t *testing.T, list []api.Table, f func(t *testing.T, x api.Table)) {
	for i, x := range list {
		t.Run(fmt.Sprint(i), func(t *testing.T) {
			t.Parallel()
			f(t, x)
		})
	}
}

// What is asked, reckoned by the library's great numbers, and by lengths alone.

// great is the number that has these words.
func great(a api.Nat) *big.Int {
	list := make([]byte, 0, 8*len(a))
	for _, w := range slices.Backward(a) {
		for place := 56; place >= 0; place -= 8 {
			list = append(list, byte(w>>place))
		}
	}
	return new(big.Int).SetBytes(list)
}

// wordsOf are the words of a number, without noughts on top.
func wordsOf(x *big.Int) api.Nat {
	n := (x.BitLen() + 63) / 64
	row := make(api.Nat, n)
	list := x.FillBytes(make([]byte, 8*n))
	for i := range list {
		row[n-1-i/8] = row[n-1-i/8]<<8 | uint64(list[i])
	}
	return row
}

func product(l ...api.Nat) api.Nat {
	x := big.NewInt(1)
	for _, a := range l {
		x.Mul(x, great(a))
	}
	return wordsOf(x)
}

func square(a api.Nat) api.Nat { return product(a, a) }

// part is a product of n by m words within another one.
type part struct{ n, m int }

// parts are the products that Block, Kara or Toom needs, as chapter 4 names them.
func parts(route, n, m int) []part {
	n, m = max(n, m), min(n, m)
	switch route {
	case table.Block:
		var list []part
		for ; n > 0; n -= m {
			list = append(list, part{min(n, m), m})
		}
		return list
	case table.Kara:
		h := (n + 1) / 2
		return []part{{h, h}, {n - h, m - h}, {h + 1, h + 1}}
	case table.Toom:
		k := (n + 2) / 3
		return []part{{k, k}, {k + 1, k + 1}, {k + 1, k + 1}, {k + 1, k + 1}, {n - 2*k, m - 2*k}}
	}
	return nil
}

// goes says whether a product may go that route first.
func goes(route, n, m int) bool {
	n, m = max(n, m), min(n, m)
	switch route {
	case table.School, table.Block, table.Ntt:
		return m > 0
	case table.Kara:
		return m > (n+1)/2
	case table.Toom:
		return m > 2*((n+2)/3)
	}
	return false
}

// costBy is what a product spends that goes that route first.
func costBy(x api.Table, route, n, m int) int {
	switch route {
	case table.School:
		return n * m
	case table.Ntt:
		return table.Transform(n, m, 3)
	}
	sum := 0
	for _, p := range parts(route, n, m) {
		sum += table.Cost(x, p.n, p.m)
	}
	return sum
}

// depths tells how many levels products enter by one table; it keeps what it has reckoned, for parts are alike.
type depths struct {
	x     api.Table
	known map[part]int
}

func depthsBy(x api.Table) depths { return depths{x, map[part]int{}} }

// by is how many levels a product enters that goes that route first: one, and those of its parts.
func (d depths) by(route, n, m int) int {
	within := -1
	for _, p := range parts(route, n, m) {
		within = max(within, d.of(p.n, p.m))
	}
	return within + 1
}

func (d depths) of(n, m int) int {
	key := part{n, m}
	if _, ok := d.known[key]; !ok {
		d.known[key] = d.by(table.Route(d.x, n, m), n, m)
	}
	return d.known[key]
}

func levelsBy(x api.Table, route, n, m int) int { return depthsBy(x).by(route, n, m) }

func levels(x api.Table, n, m int) int { return depthsBy(x).of(n, m) }

// mostLevels is 2 L + 4, where L is how many binary digits the greater length has.
func mostLevels(n, m int) int { return 2*bits.Len(uint(max(n, m))) + 4 }

// What is held against what is asked.

func is(t *testing.T, told string, answer, asked int) {
	t.Helper()
	if answer != asked {
		t.Fatalf("%s: %d; asked is %d", told, answer, asked)
	}
}

func words(t *testing.T, told string, answer, asked api.Nat) {
	t.Helper()
	if !slices.Equal(answer, asked) {
		t.Fatalf("%s: %x; asked is %x", told, answer, asked)
	}
}

// refused holds a refusal: nothing stands beside false.
func refused(t *testing.T, told string, c api.Nat, ok bool) {
	t.Helper()
	if ok || len(c) != 0 {
		t.Fatalf("%s: %v, %v; asked is false, and nothing beside", told, c, ok)
	}
}

// checkLevels holds the levels of a call that was made on a meter just reset.
func checkLevels(t *testing.T, told string, e *mul.Engine, asked, n, m int) {
	t.Helper()
	is(t, told+": Now", e.Now(), 0)
	is(t, told+": Deep", e.Deep(), asked)
	if e.Deep() > mostLevels(n, m) {
		t.Fatalf("%s of %d by %d words: %d levels; at most %d are asked", told, n, m, e.Deep(), mostLevels(n, m))
	}
}

// checkMul holds a product, what it spends, and its levels, of two without zero words on top.
func checkMul(t *testing.T, e *mul.Engine, a, b api.Nat) {
	t.Helper()
	n, m := len(a), len(b)
	told := fmt.Sprintf("Mul of %d by %d words", n, m)
	e.Reset()
	words(t, told, e.Mul(a, b), product(a, b))
	is(t, told+": Muls", e.Muls(), table.Cost(e.Table, n, m))
	if e.Muls() > 8*n*m {
		t.Fatalf("%s: %d; at most %d are asked", told, e.Muls(), 8*n*m)
	}
	checkLevels(t, told, e, levels(e.Table, n, m), n, m)
}

// checkSqr is checkMul of a square.
func checkSqr(t *testing.T, e *mul.Engine, a api.Nat) {
	t.Helper()
	n := len(a)
	told := fmt.Sprintf("Sqr of %d words", n)
	e.Reset()
	words(t, told, e.Sqr(a), square(a))
	is(t, told+": Muls", e.Muls(), table.Square(e.Table, n))
	if e.Muls() > 8*n*n {
		t.Fatalf("%s: %d; at most %d are asked", told, e.Muls(), 8*n*n)
	}
	checkLevels(t, told, e, levels(e.Table, n, n), n, n)
}

// checkBy is checkMul of a product by one route first; of two without zero words on top.
func checkBy(t *testing.T, e *mul.Engine, route int, a, b api.Nat) {
	t.Helper()
	n, m := len(a), len(b)
	told := fmt.Sprintf("By %d of %d by %d words", route, n, m)
	e.Reset()
	c, ok := e.By(route, a, b)
	if n == 0 || m == 0 || !goes(route, n, m) {
		refused(t, told, c, ok)
		is(t, told+": Muls", e.Muls(), 0)
		checkLevels(t, told, e, 0, n, m)
		return
	}
	if !ok {
		t.Fatalf("%s: false", told)
	}
	words(t, told, c, product(a, b))
	is(t, told+": Muls", e.Muls(), costBy(e.Table, route, n, m))
	checkLevels(t, told, e, levelsBy(e.Table, route, n, m), n, m)
}

// P12.1: New, and what is promoted

func TestNew(t *testing.T) {
	for _, x := range tables() {
		e := mul.New(x)
		clamped := table.Clamp(x)
		if e.Table != clamped || e.Engine.Table != toom.New(x).Table {
			t.Errorf("%v: %v", x, e.Table)
		}
		entries := []int{e.Base, e.Table.Toom, e.Ntt, e.Div, e.Recip, e.Lehmer, e.Radix, e.Poly, e.Kron, e.Series, e.Tree}
		asked := []int{clamped.Base, clamped.Toom, clamped.Ntt, clamped.Div, clamped.Recip, clamped.Lehmer, clamped.Radix, clamped.Poly, clamped.Kron, clamped.Series, clamped.Tree}
		if !slices.Equal(entries, asked) {
			t.Errorf("%v: %v", x, entries)
		}
		is(t, "Muls", e.Muls(), 0)
		is(t, "Now", e.Now(), 0)
		is(t, "Deep", e.Deep(), 0)
		if other := mul.New(x); other == e || other.Engine == e.Engine || other.Tune == e.Tune {
			t.Error("two engines have one meter")
		}
	}
}

// The engines below can be asked through the one above, and all have one meter.
func TestPromoted(t *testing.T) {
	e := mul.New(table.Least(4))
	s := source(6)
	a, b := s.row(9), s.row(9)
	told := []struct {
		name  string
		ask   func() (api.Nat, bool)
		want  api.Nat
		spent int
	}{
		{"Kara", func() (api.Nat, bool) { return e.Kara(a, b, e.Engine.Mul) }, product(a, b), 25 + 16 + 36},
		{"KaraSqr", func() (api.Nat, bool) { return e.KaraSqr(a, e.Engine.Sqr) }, square(a), 15 + 10 + 21},
		{"Toom", func() (api.Nat, bool) { return e.Toom(a, b, e.Engine.Mul) }, product(a, b), 9 + 3*16 + 9},
		{"ToomSqr", func() (api.Nat, bool) { return e.ToomSqr(a, e.Engine.Sqr) }, square(a), 6 + 3*10 + 6},
		{"Both", func() (api.Nat, bool) { return e.Both(a, b), true }, product(a, b), table.Cost(e.Table, 9, 9)},
		{"Mul by hand", func() (api.Nat, bool) { return e.Engine.Mul(a, b), true }, product(a, b), 81},
		{"Sqr by hand", func() (api.Nat, bool) { return e.Engine.Sqr(a), true }, square(a), 45},
		{"Power", func() (api.Nat, bool) { return e.Power(api.Nat{3}, 5), true }, api.Nat{243}, 5},
	}
	for _, c := range told {
		e.Reset()
		got, ok := c.ask()
		if !ok {
			t.Fatalf("%s: false", c.name)
		}
		words(t, c.name, got, c.want)
		is(t, c.name+": Muls", e.Muls(), c.spent)
		is(t, c.name+": Now", e.Now(), 0)
	}
	e.Reset()
	e.Mul(a, b)
	is(t, "Muls below", e.Engine.Engine.Muls(), table.Cost(e.Table, 9, 9))
	is(t, "Deep below", e.Tune.Deep(), levels(e.Table, 9, 9))
	is(t, "Spend", e.Spend(5), table.Cost(e.Table, 9, 9)+5)
	is(t, "Route", e.Route(9, 9), table.Kara)
	is(t, "Route", e.Route(12, 12), table.Toom)
	is(t, "Enter", e.Enter(), 1)
	is(t, "Now", e.Now(), 1)
	is(t, "Leave", e.Leave(), 0)
	e.Reset()
	is(t, "Muls", e.Muls(), 0)
	is(t, "Deep", e.Deep(), 0)
}

// Mul and Sqr hide those by hand, which spend otherwise.
func TestHides(t *testing.T) {
	e := mul.New(table.Least(4))
	e.Mul(same(3, 4), same(5, 4))
	is(t, "Mul", e.Muls(), 17)
	e.Engine.Mul(same(3, 4), same(5, 4))
	is(t, "Mul by hand", e.Muls(), 17+16)
	e.Sqr(same(3, 4))
	is(t, "Sqr", e.Muls(), 33+12)
	e.Engine.Sqr(same(3, 4))
	is(t, "Sqr by hand", e.Muls(), 45+10)
}

// P12.1: Mul and Sqr

func TestMulByHand(t *testing.T) {
	byEach(t, func(t *testing.T, x api.Table) {
		e := mul.New(x)
		for _, c := range []struct{ a, b, want api.Nat }{
			{nil, nil, nil},
			{nil, api.Nat{5}, nil},
			{api.Nat{6}, api.Nat{7}, api.Nat{42}},
			{api.Nat{most}, api.Nat{most}, api.Nat{1, most - 1}},
			{api.Nat{half}, api.Nat{2}, api.Nat{0, 1}},
			{api.Nat{1, 2, 3}, api.Nat{10, 100}, api.Nat{10, 120, 230, 300}},
			{api.Nat{1, 2, 3, 4}, api.Nat{5, 6, 7, 8}, api.Nat{5, 16, 34, 60, 61, 52, 32}},
			{api.Nat{1, 1, 1, 1, 1}, api.Nat{1, 1, 1, 1, 1}, api.Nat{1, 2, 3, 4, 5, 4, 3, 2, 1}},
			{api.Nat{0, 0, 0, 0, 0, 0, 0, 0, 2}, api.Nat{0, 0, 0, 0, 3}, api.Nat{0, 0, 0, 0, 0, 0, 0, 0, 0, 0, 0, 0, 6}},
		} {
			words(t, "Mul", e.Mul(c.a, c.b), c.want)
			words(t, "Mul", e.Mul(c.b, c.a), c.want)
			if slices.Equal(c.a, c.b) {
				words(t, "Sqr", e.Sqr(c.a), c.want)
			}
		}
		// The square of B^n - 1 is B^(2 n) - 2 B^n + 1.
		for n := 1; n < 300; n += 7 {
			want := slices.Concat(api.Nat{1}, same(0, n-1), api.Nat{most - 1}, same(most, n-1))
			words(t, "Sqr", e.Sqr(same(most, n)), want)
			words(t, "Mul", e.Mul(same(most, n), same(most, n)), want)
		}
	})
}

// Each length from 0 to some dozens, equal and unequal, either one longer.
func TestAllLengths(t *testing.T) {
	byEach(t, func(t *testing.T, x api.Table) {
		e := mul.New(x)
		s := source(7)
		for n := range 50 {
			for m := range 50 {
				checkMul(t, e, s.row(n), s.row(m))
			}
			checkSqr(t, e, s.row(n))
		}
	})
}

// Rows of all kinds: of the greatest words, of noughts below one, with noughts within.
func TestAllKinds(t *testing.T) {
	byEach(t, func(t *testing.T, x api.Table) {
		e := mul.New(x)
		for _, n := range []int{1, 3, 4, 7, 8, 12, 13, 27, 32, 33, 65, 90} {
			for i, a := range rows(n) {
				for _, m := range []int{0, 1, n/3 + 1, n/2 + 1, n - 1, n} {
					list := rows(m)
					for _, b := range []api.Nat{list[i%len(list)], list[(i+4)%len(list)], list[(i+7)%len(list)]} {
						checkMul(t, e, a, b)
					}
				}
				checkSqr(t, e, a)
			}
		}
	})
}

// Some hundreds of words, by lengths beside each other and far apart.
func TestHundreds(t *testing.T) {
	byEach(t, func(t *testing.T, x api.Table) {
		e := mul.New(x)
		s := source(8)
		for _, n := range []int{100, 128, 129, 255, 300} {
			a := s.row(n)
			for _, m := range []int{1, 3, 4, 12, 32, 63, 64, n / 3, n / 2, n/2 + 1, n/2 + 2, 2 * n / 3, 2*n/3 + 1, 2*n/3 + 2, n - 1, n} {
				checkMul(t, e, a, s.row(min(m, n)))
				checkMul(t, e, s.row(min(m, n)), a)
			}
			checkSqr(t, e, a)
			checkSqr(t, e, same(most, n))
			checkMul(t, e, same(most, n), same(most, n-1))
		}
	})
}

// The tables above send lengths every way, squares too.
func TestEachWayIsGone(t *testing.T) {
	var products, squares [6]bool
	for _, x := range tables() {
		for n := range 200 {
			for m := range n + 1 {
				products[table.Route(x, n, m)] = true
			}
			squares[table.Route(x, n, n)] = true
		}
	}
	if products != [6]bool{true, true, true, true, true, true} {
		t.Error(products)
	}
	if squares != [6]bool{true, true, false, true, true, true} {
		t.Error(squares)
	}
}

// The library's products are those by hand.
func TestAgainstSchool(t *testing.T) {
	byEach(t, func(t *testing.T, x api.Table) {
		e, hand := mul.New(x), school.New(api.Table{})
		s := source(9)
		for n := 1; n < 300; n += 13 {
			a, b := s.row(n), s.row(n-n/3)
			words(t, "Mul", e.Mul(a, b), hand.Mul(a, b))
			words(t, "Sqr", e.Sqr(a), hand.Sqr(a))
		}
	})
}

// What is spent, told by numbers.
func TestSpentByNumbers(t *testing.T) {
	for _, c := range []struct {
		x            api.Table
		n, m, asked  int
		square, deep int
	}{
		{table.Least(4), 3, 3, 9, 6, 0},
		{table.Least(4), 4, 4, 17, 12, 1},
		{table.Least(4), 5, 5, 17 + 9 + 4, 12 + 6 + 3, 2},
		{table.Least(4), 8, 4, 34, 0, 2},
		{table.Least(4), 9, 4, 38, 0, 2},
		{table.Least(4), 32, 32, 3*(3*32*6+128) + 6*64, 3*(2*32*6+128) + 6*64, 0},
		{table.Least(16, 16), 16, 16, 36 + 3*49 + 16, 21 + 3*28 + 10, 1},
		{table.Least(64), 63, 63, 63 * 63, 63 * 32, 0},
	} {
		e := mul.New(c.x)
		e.Mul(same(1, c.n), same(1, c.m))
		is(t, "Mul", e.Muls(), c.asked)
		is(t, "Deep", e.Deep(), c.deep)
		if c.n == c.m {
			e.Reset()
			e.Sqr(same(1, c.n))
			is(t, "Sqr", e.Muls(), c.square)
			is(t, "Deep", e.Deep(), c.deep)
		}
	}
}

// What is spent is added to what was spent before, at whatever level.
func TestSpentIsAdded(t *testing.T) {
	byEach(t, func(t *testing.T, x api.Table) {
		e := mul.New(x)
		s := source(10)
		spent, deep := e.Spend(77), 0
		for n := range 90 {
			m := n * 37 % 91
			level := e.Enter()
			e.Mul(s.row(n), s.row(m))
			spent += table.Cost(x, n, m)
			is(t, "Muls", e.Muls(), spent)
			is(t, "Now", e.Now(), level)
			e.Sqr(s.row(n))
			spent += table.Square(x, n)
			is(t, "Muls", e.Muls(), spent)
			is(t, "Now", e.Now(), level)
			deep = max(deep, level+levels(x, n, m), level+levels(x, n, n))
			is(t, "Deep", e.Deep(), deep)
		}
	})
}

// Zero words on top are nothing: they change no answer, and cost none.
func TestZeroWordsOnTop(t *testing.T) {
	byEach(t, func(t *testing.T, x api.Table) {
		e := mul.New(x)
		s := source(11)
		for _, n := range []int{0, 1, 3, 4, 5, 7, 8, 11, 12, 15, 31, 32, 33, 63, 64, 80} {
			for _, m := range []int{0, 1, 3, 4, 6, n / 2, n} {
				a, b := s.row(n), s.row(m)
				for _, more := range [][2]int{{1, 0}, {0, 1}, {2, 2}, {5, 70}, {90, 3}} {
					e.Reset()
					words(t, "Mul", e.Mul(topped(a, more[0]), topped(b, more[1])), product(a, b))
					is(t, "Muls", e.Muls(), table.Cost(x, n, m))
					checkLevels(t, "Mul", e, levels(x, n, m), n, m)
					e.Reset()
					words(t, "Sqr", e.Sqr(topped(a, more[0])), square(a))
					is(t, "Muls", e.Muls(), table.Square(x, n))
					checkLevels(t, "Sqr", e, levels(x, n, n), n, n)
				}
			}
		}
	})
}

// A 0 costs nothing, however it is written, and enters no level.
func TestNothing(t *testing.T) {
	byEach(t, func(t *testing.T, x api.Table) {
		e := mul.New(x)
		s := source(12)
		e.Spend(3)
		for _, zero := range []api.Nat{nil, {}, {0}, same(0, 5), same(0, 70), same(0, api.MaxWords)} {
			for _, n := range []int{0, 1, 4, 12, 64, 300, api.MaxWords} {
				a := s.row(n)
				if len(e.Mul(zero, a)) != 0 || len(e.Mul(a, zero)) != 0 || len(e.Mul(zero, topped(a, 2))) != 0 || len(e.Sqr(zero)) != 0 {
					t.Fatal("a product with 0 is none")
				}
				for route := -1; route < 8; route++ {
					c, ok := e.By(route, zero, a)
					refused(t, "By", c, ok)
					c, ok = e.By(route, a, zero)
					refused(t, "By", c, ok)
				}
			}
		}
		is(t, "Muls", e.Muls(), 3)
		is(t, "Deep", e.Deep(), 0)
		is(t, "Now", e.Now(), 0)
	})
}

// A product of a and b is one of b and a, and a square is a product with itself.
func TestTurned(t *testing.T) {
	byEach(t, func(t *testing.T, x api.Table) {
		e := mul.New(x)
		s := source(13)
		for n := range 80 {
			a, b := s.row(n), s.row(n*53%83)
			words(t, "turned", e.Mul(b, a), e.Mul(a, b))
			words(t, "squared", e.Sqr(a), e.Mul(a, a))
			words(t, "squared", e.Sqr(a), e.Mul(a, slices.Clone(a)))
		}
	})
}

// Products are what they are: they part over sums, and one by 1 changes nothing.
func TestLaws(t *testing.T) {
	byEach(t, func(t *testing.T, x api.Table) {
		e := mul.New(x)
		s := source(14)
		for n := 1; n < 100; n += 3 {
			a, b, c := s.row(n), s.row(n/2+1), s.row(n/3+1)
			words(t, "three", e.Mul(e.Mul(a, b), c), e.Mul(a, e.Mul(b, c)))
			words(t, "by 1", e.Mul(a, api.Nat{1}), a)
			words(t, "by B", e.Mul(api.Nat{0, 1}, a), slices.Concat(api.Nat{0}, a))
		}
	})
}

// P12.1: the longest rows that may be handed in

func TestMostWords(t *testing.T) {
	byFew(t, func(t *testing.T, x api.Table) {
		e := mul.New(x)
		s := source(15)
		n := api.MaxWords
		a := s.row(n)
		for _, m := range []int{1, 3, 64, 500, n/2 + 1, n - 1, n} {
			checkMul(t, e, a, s.row(m))
		}
		checkMul(t, e, same(most, n), same(most, n))
		checkSqr(t, e, same(most, n))
		checkMul(t, e, s.row(8191), s.row(8191))
		checkSqr(t, e, s.row(8191))
		checkSqr(t, e, s.row(8192))
	})
}

// Beyond the limit a call ends, and here it answers what it is asked.
func TestBeyond(t *testing.T) {
	byFew(t, func(t *testing.T, x api.Table) {
		e := mul.New(x)
		s := source(16)
		n := api.MaxWords
		for _, pair := range [][2]int{{n + 1, 0}, {n + 1, 1}, {n + 1, 70}, {n + 1, n + 1}, {2*n + 3, n + 5}} {
			a, b := s.row(pair[0]), s.row(pair[1])
			e.Reset()
			words(t, "Mul", e.Mul(a, b), product(a, b))
			words(t, "Mul", e.Mul(b, a), product(a, b))
			if e.Muls() > 16*len(a)*len(b) || e.Deep() > mostLevels(len(a), len(b)) {
				t.Fatalf("%v: %d, %d levels", pair, e.Muls(), e.Deep())
			}
			if pair[1] > 0 && e.Muls() == 0 {
				t.Fatalf("%v: nothing is spent", pair)
			}
			is(t, "Now", e.Now(), 0)
			if c, ok := e.By(table.Block, b, a); ok != (pair[1] > 0) || ok && !slices.Equal(c, product(a, b)) {
				t.Fatalf("%v: by Block: %v", pair, ok)
			}
		}
		for _, n := range []int{n + 1, 2*n + 1} {
			a := s.row(n)
			words(t, "Sqr", e.Sqr(a), square(a))
		}
		// Zero words beyond are nothing, as everywhere.
		a := s.row(9)
		e.Reset()
		words(t, "Mul", e.Mul(topped(a, 2*n), topped(a, n)), square(a))
		is(t, "Muls", e.Muls(), table.Cost(x, 9, 9))
		e.Reset()
		words(t, "Sqr", e.Sqr(topped(a, 2*n)), square(a))
		is(t, "Muls", e.Muls(), table.Square(x, 9))
	})
}

// P12.1: Product

func TestProductExamples(t *testing.T) {
	byEach(t, func(t *testing.T, x api.Table) {
		e := mul.New(x)
		words(t, "of none", e.Product(), api.Nat{1})
		words(t, "of an empty list", e.Product([]api.Nat{}...), api.Nat{1})
		is(t, "Muls", e.Muls(), 0)
		words(t, "of 2, 3, 7", e.Product(api.Nat{2}, api.Nat{3}, api.Nat{7}), api.Nat{42})
		words(t, "of one", e.Product(api.Nat{5}), api.Nat{5})
		words(t, "of one with noughts", e.Product(api.Nat{5, 6, 0, 0}), api.Nat{5, 6})
		words(t, "of some with noughts", e.Product(api.Nat{2, 0}, api.Nat{3, 1, 0, 0, 0}, api.Nat{7}), api.Nat{42, 14})
		words(t, "of 1s", e.Product(api.Nat{1}, api.Nat{1, 0}, api.Nat{1}), api.Nat{1})
		for _, l := range [][]api.Nat{{nil}, {{}}, {{0, 0}}, {{2}, nil, {7}}, {nil, {2}, {7}}, {{2}, {7}, {0, 0}}, {{0}, {0}}} {
			if c := e.Product(l...); len(c) != 0 {
				t.Errorf("%v: %v", l, c)
			}
		}
	})
}

func TestProductOfMany(t *testing.T) {
	byEach(t, func(t *testing.T, x api.Table) {
		e := mul.New(x)
		s := source(17)
		for count := range 40 {
			var l []api.Nat
			for i := range count {
				l = append(l, topped(s.row((i*7+count)%11+1), i%3))
			}
			e.Reset()
			words(t, "Product", e.Product(l...), product(l...))
			is(t, "Now", e.Now(), 0)
			if count > 0 {
				l[count*3/4] = same(0, count%3)
				if c := e.Product(l...); len(c) != 0 {
					t.Fatalf("with a 0: %v", c)
				}
			}
		}
	})
}

// The whole of two costs what their product costs; one alone costs nothing.
func TestProductSpends(t *testing.T) {
	byEach(t, func(t *testing.T, x api.Table) {
		e := mul.New(x)
		s := source(18)
		for n := 1; n < 100; n += 9 {
			a, b := s.row(n), s.row(n/2+1)
			e.Reset()
			e.Product(topped(a, 3))
			is(t, "of one", e.Muls(), 0)
			e.Product(topped(a, 3), b)
			is(t, "of two", e.Muls(), table.Cost(x, n, n/2+1))
		}
	})
}

// Products grow past MaxWords on the way, to as many words as may be asked for.
func TestLongProducts(t *testing.T) {
	byFew(t, func(t *testing.T, x api.Table) {
		e := mul.New(x)
		s := source(19)
		n := api.MaxWords
		for _, lengths := range [][]int{{n, n, n, n - 1, 1}, {1, n, 1, n / 2}, {n, 1}} {
			var l []api.Nat
			for _, n := range lengths {
				l = append(l, s.row(n))
			}
			words(t, "Product", e.Product(l...), product(l...))
		}
		many := make([]api.Nat, api.MaxTerms)
		for i := range many {
			many[i] = s.row(i%3 + 1)
		}
		words(t, "Product", e.Product(many...), product(many...))
	})
}

// A 0 among the longest rows, as many as may be: their product is 0, whatever the others would be together.
func TestNothingAmongMany(t *testing.T) {
	e := mul.New(api.Table{})
	s := source(20)
	l := slices.Repeat([]api.Nat{s.row(api.MaxWords)}, api.MaxTerms)
	for _, place := range []int{0, 1, api.MaxTerms / 2, api.MaxTerms - 1} {
		kept := l[place]
		l[place] = api.Nat{0, 0}
		if c := e.Product(l...); len(c) != 0 {
			t.Error(place)
		}
		l[place] = kept
	}
	is(t, "Muls", e.Muls(), 0)
}

// P12.2: By

// Every route, also where none is, at all lengths.
func TestByAllLengths(t *testing.T) {
	byEach(t, func(t *testing.T, x api.Table) {
		e := mul.New(x)
		s := source(21)
		for n := range 30 {
			for m := range 30 {
				a, b := s.row(n), s.row(m)
				for route := -2; route < 9; route++ {
					checkBy(t, e, route, a, b)
				}
			}
		}
	})
}

func TestByNoRoute(t *testing.T) {
	e := mul.New(api.Table{})
	s := source(22)
	for _, route := range []int{math.MinInt, math.MinInt + 1, -1 << 32, -5, -1, table.Nothing, table.Ntt + 1, 7, 8, 1<<32 + 1, math.MaxInt - 1, math.MaxInt} {
		for _, n := range []int{0, 1, 3, 12, 100} {
			checkBy(t, e, route, s.row(n), s.row(n))
			checkBy(t, e, route, s.row(n), s.row(1))
		}
	}
}

// The lengths where Kara and Toom say false, and where they no longer do, told by numbers.
func TestByEdges(t *testing.T) {
	for _, c := range []struct{ route, n, m int }{
		{table.Kara, 1, 0}, {table.Kara, 1, 1}, {table.Kara, 2, 1}, {table.Kara, 3, 2}, {table.Kara, 4, 2}, {table.Kara, 5, 3}, {table.Kara, 40, 20}, {table.Kara, 41, 21}, {table.Kara, 300, 150},
		{table.Toom, 1, 0}, {table.Toom, 1, 1}, {table.Toom, 2, 2}, {table.Toom, 3, 2}, {table.Toom, 4, 4}, {table.Toom, 5, 4}, {table.Toom, 6, 4}, {table.Toom, 30, 20}, {table.Toom, 31, 22}, {table.Toom, 300, 200},
	} {
		for _, x := range tables() {
			e := mul.New(x)
			s := source(23)
			for _, turned := range []bool{false, true} {
				a, b := s.row(c.n), s.row(c.m)
				if turned {
					a, b = b, a
				}
				p, ok := e.By(c.route, topped(a, 1), topped(b, 40))
				refused(t, fmt.Sprint(c), p, ok)
				is(t, "Muls", e.Muls(), 0)
				is(t, "Deep", e.Deep(), 0)
			}
			if c.m+1 <= c.n && c.m > 0 && !(c.route == table.Toom && c.n == 1) {
				a, b := s.row(c.n), s.row(c.m+1)
				for _, pair := range [][2]api.Nat{{a, b}, {b, a}} {
					p, ok := e.By(c.route, pair[0], pair[1])
					if !ok {
						t.Fatalf("%v, one word more: false", c)
					}
					words(t, "By", p, product(a, b))
				}
			}
		}
	}
}

// Block goes at any lengths, equal ones too: then it has but one piece.
func TestByBlock(t *testing.T) {
	byEach(t, func(t *testing.T, x api.Table) {
		e := mul.New(x)
		s := source(24)
		for _, m := range []int{1, 2, 4, 9, 12, 31, 64, 100} {
			for _, n := range []int{m, m + 1, 2*m - 1, 2 * m, 2*m + 1, 3*m + m/2, 5 * m} {
				checkBy(t, e, table.Block, s.row(n), s.row(m))
				checkBy(t, e, table.Block, s.row(m), s.row(n))
				checkBy(t, e, table.Block, same(most, n), same(most, m))
			}
			e.Reset()
			e.By(table.Block, same(1, m), same(1, m))
			is(t, "Muls", e.Muls(), table.Cost(x, m, m))
			is(t, "Deep", e.Deep(), 1+levels(x, m, m))
		}
	})
}

// What a By spends and enters, told by numbers.
func TestBySpends(t *testing.T) {
	for _, c := range []struct{ route, n, m, asked, deep int }{
		{table.School, 9, 9, 81, 0},
		{table.School, 40, 9, 360, 0},
		{table.Block, 3, 3, 9, 1},
		{table.Block, 4, 4, 17, 2},
		{table.Block, 5, 4, 21, 2},
		{table.Block, 7, 2, 14, 1},
		{table.Kara, 2, 2, 6, 1},
		{table.Kara, 3, 3, 14, 1},
		{table.Kara, 4, 4, 17, 1},
		{table.Kara, 8, 8, 17 + 17 + 30, 3},
		{table.Toom, 3, 3, 14, 1},
		{table.Toom, 9, 9, 9 + 3*17 + 9, 2},
		{table.Ntt, 1, 1, 3*(3+4) + 12, 0},
		{table.Ntt, 3, 2, 3*(3*4*3+16) + 48, 0},
	} {
		e := mul.New(table.Least(4))
		if _, ok := e.By(c.route, same(1, c.n), same(1, c.m)); !ok {
			t.Fatalf("%v: false", c)
		}
		is(t, fmt.Sprint(c), e.Muls(), c.asked)
		is(t, fmt.Sprint(c), e.Deep(), c.deep)
		if _, ok := e.By(c.route, same(1, c.m), same(1, c.n)); !ok {
			t.Fatalf("%v: false", c)
		}
		is(t, fmt.Sprint(c), e.Muls(), 2*c.asked)
	}
}

// Pieces keep their zero words: what a By costs hangs on the lengths alone.
func TestPiecesAsTheyAre(t *testing.T) {
	byEach(t, func(t *testing.T, x api.Table) {
		e := mul.New(x)
		for _, n := range []int{6, 9, 15, 24, 40, 90} {
			for i, a := range rows(n) {
				for _, m := range []int{n/3 + 1, n/2 + 2, 2*n/3 + 3, n} {
					list := rows(min(m, n))
					for _, b := range []api.Nat{list[i], list[(i+4)%len(list)]} {
						for route := table.School; route <= table.Ntt; route++ {
							checkBy(t, e, route, a, b)
						}
					}
				}
			}
		}
	})
}

// By of some hundreds of words, zero words on top, which are nothing.
func TestByHundreds(t *testing.T) {
	byEach(t, func(t *testing.T, x api.Table) {
		e := mul.New(x)
		s := source(25)
		for _, n := range []int{100, 128, 257, 400} {
			for _, m := range []int{1, 50, n / 2, n/2 + 2, 2*n/3 + 2, n - 1, n} {
				a, b := s.row(n), s.row(m)
				for route := table.School; route <= table.Ntt; route++ {
					checkBy(t, e, route, a, b)
					e.Reset()
					c, ok := e.By(route, topped(b, 3), topped(a, 90))
					if ok != goes(route, n, m) || ok && !slices.Equal(c, product(a, b)) {
						t.Fatal(route, n, m, ok)
					}
					if ok {
						is(t, "Muls", e.Muls(), costBy(x, route, n, m))
					}
				}
			}
		}
	})
}

func TestByMostWords(t *testing.T) {
	s := source(26)
	a, b := s.row(api.MaxWords), s.row(api.MaxWords)
	e := mul.New(table.Least(32, 100, 3000))
	for _, route := range []int{table.Block, table.Kara, table.Toom, table.Ntt} {
		checkBy(t, e, route, a, b)
		checkBy(t, e, route, a, b[len(b)-api.MaxWords/3:])
	}
}

// P12.3: what a table says changes no answer but what is spent; how deep a product goes

// Every two tables' products are one, by every route.
func TestTablesAgree(t *testing.T) {
	s := source(27)
	var engines []*mul.Engine
	for _, x := range tables() {
		engines = append(engines, mul.New(x))
	}
	for n := 1; n < 140; n += 6 {
		for _, m := range []int{1, n/3 + 1, n/2 + 1, n} {
			a, b := s.row(n), s.row(m)
			first := engines[0].Mul(a, b)
			firstSqr := engines[0].Sqr(a)
			for _, e := range engines {
				words(t, "Mul", e.Mul(a, b), first)
				words(t, "Sqr", e.Sqr(a), firstSqr)
				for route := -1; route < 7; route++ {
					c, ok := e.By(route, a, b)
					if ok != goes(route, n, m) {
						t.Fatal(route, n, m, ok)
					}
					if ok {
						words(t, "By", c, first)
					}
				}
			}
		}
	}
}

// At all lengths to some hundreds no product enters more than 2 L + 4 levels, by any of these tables.
func TestLevels(t *testing.T) {
	byEach(t, func(t *testing.T, x api.Table) {
		e := mul.New(x)
		a := same(most, 260)
		for n := 1; n <= len(a); n++ {
			for _, m := range []int{[]int{4, n/2 + 1, 2*n/3 + 1, n - 1}[n%4], n} {
				m = min(m, n)
				e.Reset()
				e.Mul(a[:n], a[:m])
				checkLevels(t, "Mul", e, levels(x, n, m), n, m)
			}
			e.Reset()
			e.Sqr(a[:n])
			checkLevels(t, "Sqr", e, levels(x, n, n), n, n)
		}
	})
}

// By one route first there is no level too many, either.
func TestLevelsBy(t *testing.T) {
	byEach(t, func(t *testing.T, x api.Table) {
		e := mul.New(x)
		a := same(1, 200)
		for n := 1; n <= len(a); n += 3 {
			for _, route := range []int{table.Block, table.Kara, table.Toom} {
				for _, m := range []int{n/4 + 1, 2*n/3 + 2, n} {
					m = min(m, n)
					e.Reset()
					if _, ok := e.By(route, a[:n], a[:m]); ok {
						checkLevels(t, "By", e, levelsBy(x, route, n, m), n, m)
					}
				}
			}
		}
	})
}

// T5: where Toom is above n, a product of n by n words costs at most Base Base 3^L.
func TestCostInTwoPieces(t *testing.T) {
	for _, base := range []int{4, 5, 7, 16, 33, 64} {
		e := mul.New(table.Least(base, 8192, 64))
		s := source(28)
		for n := 1; n < 500; n += 9 {
			e.Reset()
			e.Mul(s.row(n), s.row(n))
			bound := base * base
			for range bits.Len(uint(n)) {
				bound *= 3
			}
			if e.Muls() > bound {
				t.Fatalf("%d words, Base %d: %d; at most %d are asked", n, base, e.Muls(), bound)
			}
		}
	}
}

// R4: memory

// walled is a row with a wall behind its length, and the memory of both.
func walled(a api.Nat) (row, memory api.Nat) {
	memory = slices.Concat(a, same(0x5a5a, 8))
	return memory[:len(a)], memory
}

// What is handed in is left, and what lies behind its length, too; that is not read, either.
func TestHandedInIsLeft(t *testing.T) {
	byEach(t, func(t *testing.T, x api.Table) {
		e := mul.New(x)
		s := source(29)
		for _, n := range []int{0, 1, 3, 4, 7, 12, 16, 32, 40, 64, 70} {
			for _, m := range []int{0, 1, 4, 9, 33, 64} {
				for _, more := range []int{0, 2} {
					a, behindA := walled(topped(s.row(n), more))
					b, behindB := walled(topped(s.row(m), more))
					keptA, keptB := slices.Clone(behindA), slices.Clone(behindB)
					words(t, "Mul", e.Mul(a, b), product(a, b))
					words(t, "Sqr", e.Sqr(a), square(a))
					l := []api.Nat{a, b, a}
					words(t, "Product", e.Product(l...), product(a, b, a))
					words(t, "Product", e.Product(a), product(a))
					for route := range 7 {
						if c, ok := e.By(route, a, b); ok {
							words(t, "By", c, product(a, b))
						}
					}
					words(t, "a", behindA, keptA)
					words(t, "b", behindB, keptB)
					words(t, "in the list", l[0], a)
					words(t, "in the list", l[1], b)
				}
			}
		}
	})
}

// overwrite fills a row and its spare room.
func overwrite(a api.Nat, w uint64) {
	a = a[:cap(a)]
	for i := range a {
		a[i] = w
	}
}

// apart says that no two of the rows share memory, spare room too: what is written into one is seen in no other.
func apart(t *testing.T, told string, list ...api.Nat) {
	t.Helper()
	for i, a := range list {
		overwrite(a, uint64(1000+i))
	}
	for i, a := range list {
		for _, w := range a[:cap(a)] {
			if w != uint64(1000+i) {
				t.Fatalf("%s: two rows share memory", told)
			}
		}
	}
}

func TestHandedOutIsNew(t *testing.T) {
	byEach(t, func(t *testing.T, x api.Table) {
		e := mul.New(x)
		s := source(30)
		for _, n := range []int{0, 1, 3, 4, 7, 12, 16, 32, 40, 64, 70} {
			for _, b := range []api.Nat{nil, {0}, {1}, {0, 1}, {1, 0, 0}, s.row(4), s.row(12), s.row(40)} {
				a, behindA := walled(s.row(n))
				b, behindB := walled(b)
				list := []api.Nat{
					behindA, behindB,
					e.Mul(a, b), e.Mul(a, b), e.Mul(b, a), e.Sqr(a), e.Sqr(a), e.Sqr(b),
					e.Product(), e.Product(), e.Product(a), e.Product(a), e.Product(a, b), e.Product(b, a, b),
				}
				for route := range 7 {
					c, _ := e.By(route, a, b)
					list = append(list, c)
				}
				apart(t, "products", list...)
			}
		}
	})
}

// R5: what was asked before changes no answer, nor what is spent for it.
func TestOrder(t *testing.T) {
	byEach(t, func(t *testing.T, x api.Table) {
		s := source(31)
		a, b := s.row(83), s.row(59)
		fresh, used := mul.New(x), mul.New(x)
		for n := range 70 {
			used.Mul(s.row(n), s.row(n/2))
			used.Sqr(s.row(n))
			used.By(n%7, s.row(n), s.row(n))
			used.Product(s.row(3), s.row(n), nil)
		}
		used.Enter()
		before := used.Muls()
		words(t, "Mul", used.Mul(a, b), fresh.Mul(a, b))
		words(t, "Sqr", used.Sqr(a), fresh.Sqr(a))
		words(t, "Product", used.Product(a, b, a), fresh.Product(a, b, a))
		is(t, "Muls", used.Muls()-before, fresh.Muls())
		is(t, "Now", used.Now(), 1)
	})
}
