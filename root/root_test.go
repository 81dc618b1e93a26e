package root_test

import (
	"fmt"
	"testing"

	"ziggurat/api"
	"ziggurat/limb"
	"ziggurat/root"
	"ziggurat/table"
)

// P16.1: Root

func TestRootExample(t *testing.T) {
	byEach(t, func(t *testing.T, x api.Table) {
		e := root.New(x)
		s, err := e.Root(nil, 5)
		fine(t, "Root of 0", err)
		words(t, "Root of 0", s, nil)
	})
}

// Of 0, 1, 2 and 3, with zero words on top and without, for each k.
func TestRootOfTheLeast(t *testing.T) {
	byEach(t, func(t *testing.T, x api.Table) {
		e := root.New(x)
		for k := 1; k <= 64; k++ {
			for _, zero := range zeros() {
				checkRootIs(t, e, zero, k, nil)
			}
			for more := range 4 {
				checkRootIs(t, e, topped(api.Nat{1}, more), k, api.Nat{1})
				for _, a := range []uint64{2, 3} {
					asked := uint64(1)
					if k == 1 {
						asked = a
					}
					checkRootIs(t, e, topped(api.Nat{a}, more), k, api.Nat{asked})
				}
			}
		}
	})
}

// A k that may not be, whatever it is asked of: nothing stands beside the error, and nothing is spent.
func TestRootErrArg(t *testing.T) {
	byEach(t, func(t *testing.T, x api.Table) {
		e := root.New(x)
		s := source(20)
		e.Spend(3)
		e.Enter()
		for _, k := range wrong() {
			for _, a := range append(zeros(), api.Nat{1}, api.Nat{7}, s.row(2), s.row(40), topped(s.row(9), 2)) {
				answer, err := e.Root(a, k)
				refused(t, fmt.Sprintf("k %d", k), err, api.ErrArg, answer)
			}
		}
		is(t, "Muls", e.Muls(), 3)
		is(t, "Now", e.Now(), 1)
		is(t, "Deep", e.Deep(), 1)
		if e.Table != table.Clamp(x) {
			t.Error("the table is another one")
		}
		check(t, e, s.row(30), 5)
	})
}

// The root of 1 is the number itself.
func TestRootOfOne(t *testing.T) {
	byEach(t, func(t *testing.T, x api.Table) {
		e := root.New(x)
		for _, n := range []int{1, 2, 3, 9, 40, 300} {
			for _, a := range rows(n) {
				checkRootIs(t, e, a, 1, a)
				checkRootIs(t, e, topped(a, 3), 1, a)
			}
		}
		is(t, "Muls", e.Muls(), 0)
		is(t, "Deep", e.Deep(), 0)
	})
}

// The root of 2 is Sqrt's, and costs as much.
func TestRootOfTwo(t *testing.T) {
	byEach(t, func(t *testing.T, x api.Table) {
		e, other := root.New(x), root.New(x)
		s := source(27)
		for n := 1; n < 200; n += 1 + n/3 {
			for _, a := range []api.Nat{s.row(n), same(most, n), topped(s.row(n), 3)} {
				asked, _ := other.Sqrt(a)
				checkRootIs(t, e, a, 2, asked)
				is(t, "Muls", e.Muls(), other.Muls())
				is(t, "Deep", e.Deep(), other.Deep())
			}
		}
	})
}

// Where 2 to the k is above a, the root is 1, from there on 2, and from 3 to the k on 3.
func TestRootIsOne(t *testing.T) {
	byEach(t, func(t *testing.T, x api.Table) {
		e := root.New(x)
		for k := 2; k <= 64; k++ {
			two, three := power(k), raised(api.Nat{3}, k)
			checkRootIs(t, e, minus(two, 1), k, api.Nat{1})
			checkRootIs(t, e, two, k, api.Nat{2})
			checkRootIs(t, e, plus(two, 1), k, api.Nat{2})
			checkRootIs(t, e, minus(three, 1), k, api.Nat{2})
			checkRootIs(t, e, three, k, api.Nat{3})
			checkRootIs(t, e, plus(three, 1), k, api.Nat{3})
			for digits := 1; digits <= k; digits++ {
				checkRootIs(t, e, power(digits-1), k, api.Nat{1})
				checkRootIs(t, e, minus(power(digits), 1), k, api.Nat{1})
			}
		}
	})
}

// Small numbers, all of them, for each k, by counting.
func TestRootSmallNumbers(t *testing.T) {
	t.Parallel()
	e := root.New(api.Table{})
	for k := 1; k <= 64; k++ {
		x := uint64(0)
		for a := range uint64(1200) {
			if limb.Cmp(raised(limb.One(x+1), k), limb.One(a)) <= 0 {
				x++
			}
			checkRootIs(t, e, api.Nat{a}, k, limb.One(x))
		}
	}
}

// Small roots, all of them, for each k: at the power, and next to it.
func TestRootSmallRoots(t *testing.T) {
	t.Parallel()
	e := root.New(table.Least(4, 12, 64, 4, 4))
	for k := 2; k <= 64; k++ {
		for x := uint64(2); x < 300; x++ {
			checkAtPower(t, e, api.Nat{x}, k)
		}
		for digits := 8; digits < 34; digits++ {
			for far := range uint64(3) {
				checkAtPower(t, e, api.Nat{1<<digits + far - 1}, k)
			}
		}
	}
}

// checkAtPower holds the roots of x to the k, and of the numbers next to it; x is above 1.
func checkAtPower(t *testing.T, e *root.Engine, x api.Nat, k int) {
	t.Helper()
	p := raised(x, k)
	checkRootIs(t, e, p, k, x)
	if k > 1 {
		checkRootIs(t, e, plus(p, 1), k, x)
		checkRootIs(t, e, minus(p, 1), k, minus(x, 1))
	}
}

// Powers of rows of all kinds, for each k, with and without zero words on top.
func TestRootAtPowers(t *testing.T) {
	byEach(t, func(t *testing.T, x api.Table) {
		e := root.New(x)
		for k := 1; k <= 64; k++ {
			for n := 1; n*k < 150 && n < 20; n += 1 + n/3 + k/9 {
				for i, s := range rows(n) {
					if limb.Cmp(s, api.Nat{1}) == 0 || (i+k)%3 > 0 {
						continue
					}
					checkAtPower(t, e, s, k)
					p := raised(s, k)
					checkRootIs(t, e, topped(p, 1+k%3), k, s)
					checkRootIs(t, e, minus(raised(plus(s, 1), k), 1), k, s)
				}
			}
		}
	})
}

// The least roots' powers of each k, all kinds of them.
func TestRootAtShortPowers(t *testing.T) {
	t.Parallel()
	e := root.New(table.Least(4, 12, 64, 4, 4096))
	for k := 2; k <= 64; k++ {
		for n := 1; n < 4; n++ {
			for _, s := range rows(n) {
				if limb.Cmp(s, api.Nat{1}) > 0 {
					checkAtPower(t, e, s, k)
				}
			}
		}
	}
}

// Rows of all kinds, for each k.
func TestRootAllKinds(t *testing.T) {
	byEach(t, func(t *testing.T, x api.Table) {
		e := root.New(x)
		for k := 1; k <= 64; k++ {
			for n := 1; n < 60; n += 1 + n/4 {
				for i, a := range rows(n) {
					if (i+k+n)%4 == 0 {
						checkRoot(t, e, a, k)
						checkRoot(t, e, topped(a, n%4), k)
					}
				}
			}
		}
	})
}

// All lengths to some dozens, even and odd.
func TestRootLengths(t *testing.T) {
	byEach(t, func(t *testing.T, x api.Table) {
		e := root.New(x)
		s := source(21)
		for n := range 70 {
			for _, k := range []int{2, 3, 4, 5, 6, 7, 8, 9, 11, 16, 27, 32, 48, 63, 64} {
				checkRoot(t, e, s.row(n), k)
			}
		}
	})
}

// Powers of two, and the numbers next to them, for each k.
func TestRootPowersOfTwo(t *testing.T) {
	byEach(t, func(t *testing.T, x api.Table) {
		e := root.New(x)
		for k := 1; k <= 64; k++ {
			for n := 1; n < 2000; n += 1 + n/9 {
				for i := range 3 {
					checkRoot(t, e, plus(power(n), int64(i-1)), k)
				}
			}
		}
	})
}

// Some hundreds of words, even and odd.
func TestRootHundreds(t *testing.T) {
	byEach(t, func(t *testing.T, x api.Table) {
		e := root.New(x)
		s := source(22)
		for _, n := range []int{100, 199, 300, 401} {
			for _, k := range []int{2, 3, 4, 5, 7, 8, 12, 17, 31, 32, 33, 60, 63, 64} {
				checkRoot(t, e, s.row(n), k)
				checkRoot(t, e, same(most, n), k)
				checkAtPower(t, e, s.row(n/k+1), k)
			}
		}
	})
}

// The greatest lengths.
func TestRootGreatest(t *testing.T) {
	byFew(t, func(t *testing.T, x api.Table) {
		e := root.New(x)
		s := source(23)
		a := s.row(api.MaxWords)
		checkRootIs(t, e, a, 1, a)
		e.Reset()
		e.Sqrt(a)
		square := e.Muls()
		for _, k := range []int{2, 3, 5, 17, 63, 64} {
			e.Reset()
			checkRoot(t, e, a, k)
			if e.Muls() > 3*square || k > 60 && e.Muls() > 2*square {
				t.Errorf("k %d: %d are spent, by Sqrt %d", k, e.Muls(), square)
			}
		}
		checkRoot(t, e, same(most, api.MaxWords), 3)
		checkRoot(t, e, same(most, api.MaxWords), 64)
		checkAtPower(t, e, s.row(256), 64)
		checkAtPower(t, e, s.row(5461), 3)
	})
}

// Longer numbers have roots all the same.
func TestRootBeyondTheLimits(t *testing.T) {
	byAll(t, []api.Table{{}, table.Least(32, 100, 1000, 24, 100)}, func(t *testing.T, x api.Table) {
		e := root.New(x)
		s := source(24)
		checkRoot(t, e, s.row(2*api.MaxWords+1), 2)
		checkRoot(t, e, s.row(2*api.MaxWords+1), 64)
		checkRoot(t, e, s.row(3*api.MaxWords+5), 3)
	})
}

// Newton's steps: twice the length costs about three times as much with products in two pieces, and all steps together no more than some powers of the root.
func TestRootSpends(t *testing.T) {
	e, other := root.New(table.Least(4, 8192, 16384, 4, 4096)), root.New(table.Least(4, 8192, 16384, 4, 4096))
	for _, k := range []int{3, 5, 8, 33, 64} {
		s := source(25)
		before := 0
		for n := 128; n <= 2048; n *= 2 {
			e.Reset()
			other.Reset()
			a := under(s.row(n-1), most)
			x, _ := e.Root(a, k)
			p := api.Nat{1}
			for range k {
				p = other.Mul(p, x)
			}
			if before > 0 && 10*e.Muls() > 40*before {
				t.Errorf("%d words, k %d: %d are spent, by half as many %d", n, k, e.Muls(), before)
			}
			if e.Muls() > 8*other.Muls() {
				t.Errorf("%d words, k %d: %d are spent, by the root's power %d", n, k, e.Muls(), other.Muls())
			}
			before = e.Muls()
		}
	}
}

// T2: tables

// Every two tables' answers are one.
func TestTablesAgree(t *testing.T) {
	t.Parallel()
	s := source(26)
	var engines []*root.Engine
	for _, x := range tables() {
		engines = append(engines, root.New(x))
	}
	for n := 1; n < 300; n += 1 + n/6 {
		a := s.row(n)
		askedS, askedR := engines[0].Sqrt(a)
		square := product(a, a)
		for i, e := range engines {
			told := fmt.Sprintf("%d words, table %d", n, i)
			otherS, otherR := e.Sqrt(a)
			words(t, told, otherS, askedS)
			words(t, told, otherR, askedR)
			otherS, ok := e.Square(square)
			words(t, told, otherS, a)
			_, other := e.Square(plus(square, 2))
			if !ok || other {
				t.Fatalf("%s: Square", told)
			}
			for _, k := range []int{1, 2, 3, 4, 10, 33, 64} {
				x, err := e.Root(a, k)
				asked, _ := engines[0].Root(a, k)
				fine(t, told, err)
				words(t, told, x, asked)
			}
		}
	}
}
