package div_test

import (
	"fmt"
	"slices"
	"testing"

	"ziggurat/api"
	"ziggurat/div"
	"ziggurat/limb"
	"ziggurat/table"
)

// P15.2: Exact

// checkExact holds that a comes out even by b, and how often.
func checkExact(t *testing.T, e *div.Engine, a, b, asked api.Nat) {
	t.Helper()
	told := fmt.Sprintf("Exact of %d by %d words", a.Len(), b.Len())
	now := e.Now()
	q, err := e.Exact(a, b)
	fine(t, told, err)
	words(t, told, q, asked)
	is(t, told+": Now", e.Now(), now)
}

// refusedExact holds that it does not.
func refusedExact(t *testing.T, e *div.Engine, a, b api.Nat) {
	t.Helper()
	now := e.Now()
	q, err := e.Exact(a, b)
	refused(t, fmt.Sprintf("Exact of %d by %d words", a.Len(), b.Len()), err, api.ErrExact, q)
	is(t, "Exact: Now", e.Now(), now)
}

func TestExactByHand(t *testing.T) {
	byEach(t, func(t *testing.T, x api.Table) {
		e := div.New(x)
		checkExact(t, e, nil, api.Nat{3}, nil)
		checkExact(t, e, api.Nat{0, 0}, same(3, 9), nil)
		checkExact(t, e, api.Nat{42}, api.Nat{6}, api.Nat{7})
		checkExact(t, e, api.Nat{42, 0}, api.Nat{6, 0, 0}, api.Nat{7})
		checkExact(t, e, api.Nat{5}, api.Nat{1}, api.Nat{5})
		checkExact(t, e, same(most, 8), same(most, 4), api.Nat{1, 0, 0, 0, 1})
		refusedExact(t, e, api.Nat{41}, api.Nat{6})
		refusedExact(t, e, api.Nat{43}, api.Nat{6})
		refusedExact(t, e, api.Nat{5}, api.Nat{6})
		refusedExact(t, e, api.Nat{1}, same(1, 9))
		refusedExact(t, e, above(api.Nat{1}, 8), same(most, 4))
	})
}

// Where it comes out even, and where it does not by 1, or by a half of b.
func TestExact(t *testing.T) {
	byEach(t, func(t *testing.T, x api.Table) {
		e := div.New(x)
		s := source(40)
		for _, m := range []int{1, 2, 3, 4, 5, 8, 13, 33} {
			for _, b := range rows(m) {
				for _, k := range []int{1, 3, 4, 5, 9, 14, 40} {
					for _, q := range []api.Nat{s.row(k), same(most, k), power(64*k - 64)} {
						a := product(q, b)
						checkExact(t, e, a, b, q)
						checkExact(t, e, topped(a, 2), topped(b, 3), q)
						if limb.Cmp(b, api.Nat{1}) > 0 {
							refusedExact(t, e, plus(a, 1), b)
							refusedExact(t, e, minus(a, 1), b)
							refusedExact(t, e, back(q, b, limb.Shr(b, 1)), b)
						}
					}
				}
			}
		}
	})
}

// P15.2: Mod

// checkMod holds the remainders by all.
func checkMod(t *testing.T, e *div.Engine, a api.Nat, l ...api.Nat) {
	t.Helper()
	now := e.Now()
	list, err := e.Mod(a, l...)
	fine(t, "Mod", err)
	is(t, "Mod: Now", e.Now(), now)
	is(t, "Mod: how many", len(list), len(l))
	for i, b := range l {
		_, asked := parted(a, b)
		words(t, fmt.Sprintf("Mod: the %d-th of %d", i, len(l)), list[i], asked)
	}
}

// refusedMod holds that one of the moduli is 0; nothing is spent.
func refusedMod(t *testing.T, e *div.Engine, a api.Nat, l ...api.Nat) {
	t.Helper()
	spent, now, deep := e.Muls(), e.Now(), e.Deep()
	list, err := e.Mod(a, l...)
	refused(t, "Mod", err, api.ErrZero)
	is(t, "Mod: how many", len(list), 0)
	is(t, "Mod: Muls", e.Muls(), spent)
	is(t, "Mod: Now", e.Now(), now)
	is(t, "Mod: Deep", e.Deep(), deep)
}

func TestModByHand(t *testing.T) {
	byEach(t, func(t *testing.T, x api.Table) {
		e := div.New(x)
		list, err := e.Mod(api.Nat{100}, api.Nat{7}, api.Nat{200}, api.Nat{0, 1}, api.Nat{10}, api.Nat{7})
		fine(t, "Mod", err)
		is(t, "how many", len(list), 5)
		for i, asked := range []api.Nat{{2}, {100}, {100}, nil, {2}} {
			words(t, "Mod", list[i], asked)
		}
	})
}

// Of no modulus: no remainder, and nothing is spent, whatever is divided.
func TestModOfNone(t *testing.T) {
	e := div.New(api.Table{})
	for _, a := range append(zeros(), api.Nat{5}, same(most, 90)) {
		for _, l := range [][]api.Nat{nil, {}} {
			checkMod(t, e, a, l...)
		}
		list, err := e.Mod(a)
		fine(t, "Mod", err)
		is(t, "how many", len(list), 0)
	}
	is(t, "Muls", e.Muls(), 0)
}

// Of one modulus it is DivMod's remainder, and costs as much.
func TestModOfOne(t *testing.T) {
	byEach(t, func(t *testing.T, x api.Table) {
		e, other := div.New(x), div.New(x)
		s := source(41)
		for n := 0; n < 30; n += 3 {
			for m := 1; m < 30; m += 2 {
				a, b := s.row(n), s.row(m)
				checkMod(t, e, a, b)
				other.DivMod(a, b)
				is(t, "Muls", e.Muls(), other.Muls())
			}
		}
	})
}

// Of many: of all lengths, shorter and longer than what is divided, with zero words on top, and each one twice.
func TestModOfMany(t *testing.T) {
	byEach(t, func(t *testing.T, x api.Table) {
		e := div.New(x)
		s := source(42)
		for _, n := range []int{0, 1, 2, 5, 20, 60, 150} {
			a := s.row(n)
			for count := 2; count < 35; count += 1 + count/6 {
				var l []api.Nat
				for i := range count {
					l = append(l, topped(s.row((i*7+count)%25+1), i%3))
				}
				checkMod(t, e, a, l...)
				l = append(l, l...)
				checkMod(t, e, topped(a, 4), l...)
			}
			b := s.row(n/2 + 1)
			checkMod(t, e, a, b, b, b)
			checkMod(t, e, a, under(a, 1), same(most, n+1), plus(a, 1), api.Nat{1})
			if n > 0 {
				checkMod(t, e, a, a, a)
				checkMod(t, e, a, api.Nat{1}, a, api.Nat{1}, api.Nat{1}, plus(a, 1))
			}
		}
	})
}

// Divisors of all kinds, of one length, as many as their product is shorter, as long and longer than what is divided.
func TestModAllKinds(t *testing.T) {
	byEach(t, func(t *testing.T, x api.Table) {
		e := div.New(x)
		for _, m := range []int{1, 2, 5, 9} {
			for _, n := range []int{m, 2 * m, 2*m + 1, 4 * m, 13 * m, 20 * m} {
				for _, a := range rows(n) {
					checkMod(t, e, a, rows(m)...)
				}
			}
		}
	})
}

// Where the product of all, or of some, is a itself, is one more, or one less, or is next to where a product is thought too long.
func TestModAtTheProduct(t *testing.T) {
	byEach(t, func(t *testing.T, x api.Table) {
		e := div.New(x)
		s := source(43)
		for _, m := range []int{1, 2, 4, 6} {
			for count := 1; count < 8; count++ {
				l, all := []api.Nat{}, api.Nat{1}
				for range count {
					b := s.row(m)
					l, all = append(l, b), product(all, b)
					for _, a := range []api.Nat{all, plus(all, 1), minus(all, 1), limb.Shr(all, 1), limb.Shl(all, 1), limb.Shr(all, 2), limb.Shl(all, 5)} {
						checkMod(t, e, a, l...)
						checkMod(t, e, a, append(l, b, plus(b, 1))...)
					}
				}
			}
		}
	})
}

// Small numbers, all pairs and some triples of moduli: there each digit that a product has counts.
func TestModSmallNumbers(t *testing.T) {
	e := div.New(api.Table{})
	for a := range uint64(70) {
		for x := uint64(1); x < 20; x++ {
			for y := uint64(1); y < 20; y++ {
				list, err := e.Mod(api.Nat{a}, api.Nat{x}, api.Nat{y}, api.Nat{x + y})
				fine(t, "Mod", err)
				for i, b := range []uint64{x, y, x + y} {
					words(t, "Mod", list[i], limb.One(a%b))
				}
			}
		}
	}
}

// As many as may be, short ones and the longest ones.
func TestModOfMost(t *testing.T) {
	e := div.New(table.Least(32, 100, 1000, 20, 100))
	s := source(44)
	l := make([]api.Nat, api.MaxTerms)
	for i := range l {
		l[i] = s.row(i%5 + 1)
	}
	checkMod(t, e, s.row(70), l...)
	checkMod(t, e, s.row(api.MaxWords), l[:1000]...)
	checkMod(t, e, s.row(api.MaxWords), s.row(api.MaxWords), api.Nat{3}, s.row(9000), s.row(api.MaxWords-1), s.row(8000))
	long := s.row(api.MaxWords)
	for i := range l {
		l[i] = long
	}
	spent := e.Muls()
	list, err := e.Mod(s.row(70), l...)
	fine(t, "Mod", err)
	is(t, "how many", len(list), api.MaxTerms)
	is(t, "Muls", e.Muls(), spent)
	l[api.MaxTerms-1] = api.Nat{0, 0}
	refusedMod(t, e, s.row(70), l...)
}

// A tree of products: many short moduli of a long number cost far less than each on its own.
func TestModByATree(t *testing.T) {
	e := div.New(table.Least(8, 8192, 16384, 8, 4096))
	s := source(45)
	for _, n := range []int{512, 1024, 2048} {
		l := make([]api.Nat, n)
		for i := range l {
			l[i] = api.Nat{s.next() | half}
		}
		a := s.row(n)
		e.Reset()
		checkMod(t, e, a, l...)
		spent := e.Muls()
		e.Reset()
		e.LongMod(a, l...)
		if 2*spent > e.Muls() || n >= 2048 && 3*spent > e.Muls() {
			t.Errorf("%d words: %d are spent, each on its own %d", n, spent, e.Muls())
		}
	}
}

// Products that are above what is divided are not made: of moduli that are all above it nothing is spent, and of any number of long ones not much.
func TestModOfLongOnes(t *testing.T) {
	byEach(t, func(t *testing.T, x api.Table) {
		e, other := div.New(x), div.New(x)
		s := source(46)
		a := s.row(20)
		var l []api.Nat
		for i := range 50 {
			l = append(l, s.row(21+i%9))
		}
		checkMod(t, e, a, l...)
		is(t, "Muls", e.Muls(), 0)
		l = l[:0]
		for range 50 {
			l = append(l, under(s.row(10), most))
		}
		checkMod(t, e, a, l...)
		for _, b := range l {
			other.DivMod(a, b)
		}
		is(t, "Muls", e.Muls(), other.Muls())
	})
}

// With a 0 at each place, however it is written, alone and with others, also where 0 is divided.
func TestModByZero(t *testing.T) {
	byEach(t, func(t *testing.T, x api.Table) {
		e := div.New(x)
		s := source(47)
		for _, a := range []api.Nat{nil, {0}, {5}, s.row(2), s.row(30), topped(s.row(30), 2)} {
			for _, zero := range zeros() {
				refusedMod(t, e, a, zero)
				refusedMod(t, e, a, zero, zero)
				for count := 1; count < 9; count++ {
					for place := range count {
						var l []api.Nat
						for i := range count {
							l = append(l, s.row(i*i+1))
						}
						l[place] = zero
						refusedMod(t, e, a, l...)
					}
				}
			}
		}
		is(t, "Muls", e.Muls(), 0)
		is(t, "Deep", e.Deep(), 0)
	})
}

// P15.2: Divides

// checkDivides holds whether b divides all.
func checkDivides(t *testing.T, e *div.Engine, asked bool, b api.Nat, l ...api.Nat) {
	t.Helper()
	now := e.Now()
	answer, err := e.Divides(b, l...)
	fine(t, "Divides", err)
	is(t, "Divides: Now", e.Now(), now)
	if answer != asked {
		t.Fatalf("Divides: %v of %x, %x", answer, b, l)
	}
}

func TestDividesByHand(t *testing.T) {
	byEach(t, func(t *testing.T, x api.Table) {
		e := div.New(x)
		checkDivides(t, e, true, api.Nat{3})
		checkDivides(t, e, true, same(3, 20))
		checkDivides(t, e, true, api.Nat{3}, nil)
		checkDivides(t, e, true, same(3, 20), zeros()...)
		checkDivides(t, e, true, api.Nat{3}, api.Nat{9}, api.Nat{0}, api.Nat{12})
		checkDivides(t, e, false, api.Nat{3}, api.Nat{9}, api.Nat{10})
		checkDivides(t, e, false, api.Nat{3}, api.Nat{1}, api.Nat{9})
		checkDivides(t, e, false, api.Nat{20}, api.Nat{9})
		checkDivides(t, e, true, api.Nat{1}, api.Nat{9}, api.Nat{10}, same(7, 30))
		checkDivides(t, e, true, same(most, 4), same(most, 8), same(most, 12), same(most, 4))
		checkDivides(t, e, false, same(most, 4), same(most, 8), same(most, 11), same(most, 4))
	})
}

// Multiples of all kinds, and among them one at each place that is none.
func TestDivides(t *testing.T) {
	byEach(t, func(t *testing.T, x api.Table) {
		e := div.New(x)
		s := source(48)
		for _, m := range []int{1, 2, 4, 7, 16} {
			for _, b := range rows(m) {
				if limb.Cmp(b, api.Nat{1}) == 0 {
					continue
				}
				var l []api.Nat
				for i := range 7 {
					l = append(l, topped(product(s.row(i*3), b), i%2))
					checkDivides(t, e, true, b, l...)
					checkDivides(t, e, true, topped(b, 2), l...)
				}
				for i, a := range l {
					for _, other := range []api.Nat{plus(a, 1), back(api.Nat{1}, a, minus(b, 1)), {1}, minus(b, 1)} {
						l[i] = other
						checkDivides(t, e, false, b, l...)
					}
					l[i] = a
				}
			}
		}
	})
}

// As many as may be.
func TestDividesMost(t *testing.T) {
	e := div.New(api.Table{})
	l := slices.Repeat([]api.Nat{{21}, {0, 7}, nil, {14, 14, 14}}, api.MaxTerms/4)
	checkDivides(t, e, true, api.Nat{7}, l...)
	l[api.MaxTerms-1] = api.Nat{8}
	checkDivides(t, e, false, api.Nat{7}, l...)
}

// R4: memory

// walled is a row with a wall behind its length, and the memory of both.
func walled(a api.Nat) (row, memory api.Nat) {
	memory = slices.Concat(a, same(0x5a5a, 8))
	return memory[:len(a)], memory
}

// What is handed in is left, and what lies behind its length, too; that is not read, either.
func TestHandedInIsLeft(t *testing.T) {
	byEach(t, func(t *testing.T, x api.Table) {
		e := div.New(x)
		s := source(49)
		for _, l := range [][2]int{{0, 1}, {1, 1}, {3, 5}, {7, 3}, {8, 4}, {9, 4}, {12, 6}, {21, 9}, {40, 20}, {60, 7}, {140, 70}} {
			for more := range 3 {
				checkLeft(t, e, s.row(l[0]), s.row(l[1]), more)
			}
		}
	})
}

// checkLeft asks all calls, of numbers with so many zero words more.
func checkLeft(t *testing.T, e *div.Engine, a, b api.Nat, more int) {
	t.Helper()
	ab, behindProduct := walled(topped(product(a, b), more))
	next, behindNext := walled(topped(plus(b, 1), more))
	a, behindA := walled(topped(a, more))
	b, behindB := walled(topped(b, more))
	zero, behindZero := walled(same(0, more))
	memory := []api.Nat{behindProduct, behindNext, behindA, behindB, behindZero}
	var kept []api.Nat
	for _, row := range memory {
		kept = append(kept, slices.Clone(row))
	}
	// Behind the length of the list, too, there is a wall: a 0, which would be an error if it were read.
	behindList := []api.Nat{b, next, {1}, b, ab, next, b, nil, zero}
	list := behindList[:7]
	check(t, e, a, b)
	check(t, e, ab, next)
	e.Exact(ab, b)
	e.Exact(next, b)
	e.Exact(a, zero)
	e.DivMod(a, zero)
	e.Halves(zero, zero)
	e.Divides(b, ab, ab, next)
	e.Divides(zero, a)
	if ab.Zero() {
		list[4] = api.Nat{5}
	}
	headers := slices.Clone(behindList)
	checkMod(t, e, a, list...)
	checkMod(t, e, ab, list[:3]...)
	e.Mod(a, behindList...)
	e.Divides(b, list...)
	e.Divides(api.Nat{1}, behindList[:8]...)
	for i, row := range memory {
		words(t, "what was handed in", row, kept[i])
	}
	for i, row := range headers {
		if len(row) != len(behindList[i]) || len(row) > 0 && &row[0] != &behindList[i][0] {
			t.Fatal("the list that was handed in is another one")
		}
	}
}

// One row may stand for several.
func TestOneRowForSeveral(t *testing.T) {
	byEach(t, func(t *testing.T, x api.Table) {
		e := div.New(x)
		s := source(50)
		for _, m := range []int{1, 2, 4, 9, 30} {
			a := s.row(m)
			kept := slices.Clone(a)
			check(t, e, a, a)
			checkExact(t, e, a, a, api.Nat{1})
			checkMod(t, e, a, a, a, a)
			checkDivides(t, e, true, a, a, a)
			check(t, e, a, a[m/2:])
			checkMod(t, e, a, a[m-1:], a[m/2:], a)
			words(t, "a", a, kept)
		}
	})
}

// overwrite fills a row and its spare room.
func overwrite(a api.Nat, w uint64) {
	a = a[:cap(a)]
	for i := range a {
		a[i] = w
	}
}

// apart says that no two of the rows share memory, spare room too: what is written into one is seen in no other.
func apart(t *testing.T, told string, list ...api.Nat) {
	t.Helper()
	for i, a := range list {
		overwrite(a, uint64(1000+i))
	}
	for i, a := range list {
		for _, w := range a[:cap(a)] {
			if w != uint64(1000+i) {
				t.Fatalf("%s: two rows share memory", told)
			}
		}
	}
}

// Each list handed out is new memory: it shares none with another, nor with what was handed in.
func TestHandedOutIsNew(t *testing.T) {
	byEach(t, func(t *testing.T, x api.Table) {
		e := div.New(x)
		s := source(51)
		for _, l := range [][2]int{{0, 1}, {1, 1}, {2, 5}, {7, 3}, {4, 4}, {8, 4}, {9, 4}, {12, 6}, {21, 9}, {40, 20}, {60, 7}, {100, 50}} {
			for _, b := range []api.Nat{s.row(l[1]), under(same(0, l[1]-1), half), under(same(0, l[1]-1), 1)} {
				a, behindA := walled(s.row(l[0]))
				b, behindB := walled(b)
				ab, behindProduct := walled(product(a, b))
				list := []api.Nat{behindA, behindB, behindProduct}
				for range 2 {
					q, r, _ := e.DivMod(a, b)
					halvesQ, halvesR, _ := e.Halves(a, b)
					productQ, productR, _ := e.DivMod(ab, b)
					exact, _ := e.Exact(ab, b)
					rests, _ := e.Mod(a, b, b, api.Nat{3}, b, under(a, 1), under(a, 1))
					one, _ := e.Mod(a, under(a, 1))
					list = append(list, q, r, halvesQ, halvesR, productQ, productR, exact)
					list = append(list, slices.Concat(rests, one)...)
				}
				apart(t, "answers", list...)
			}
		}
	})
}

// Mod's answer is a list of its own, too, and so is its spare room.
func TestListHandedOutIsNew(t *testing.T) {
	e := div.New(api.Table{})
	for count := range 9 {
		l := slices.Repeat([]api.Nat{{7}}, count+2)[:count]
		first, _ := e.Mod(api.Nat{100}, l...)
		second, _ := e.Mod(api.Nat{100}, l...)
		for _, list := range [][]api.Nat{first, second} {
			list = list[:cap(list)]
			for i := range list {
				list[i] = api.Nat{9}
			}
			for _, b := range l[:count+2] {
				words(t, "what was handed in", b, api.Nat{7})
			}
		}
		first = first[:cap(first)]
		for i := range first {
			first[i] = api.Nat{5}
		}
		for _, r := range second[:cap(second)] {
			words(t, "the other answer", r, api.Nat{9})
		}
	}
}

// What was handed in is not kept: it may be overwritten behind a call, and answers are as they were.
func TestNothingIsKept(t *testing.T) {
	byEach(t, func(t *testing.T, x api.Table) {
		e := div.New(x)
		s := source(52)
		for _, l := range [][2]int{{1, 1}, {3, 5}, {8, 4}, {12, 5}, {40, 20}} {
			a, b := s.row(l[0]), s.row(l[1])
			askedQ, askedR := parted(a, b)
			q, r, _ := e.DivMod(a, b)
			otherQ, otherR, _ := e.Halves(a, b)
			list, _ := e.Mod(a, b, b)
			overwrite(a, 99)
			overwrite(b, 98)
			divided(t, "DivMod", q, r, askedQ, askedR, api.OK)
			divided(t, "Halves", otherQ, otherR, askedQ, askedR, api.OK)
			words(t, "Mod", list[0], askedR)
			words(t, "Mod", list[1], askedR)
		}
	})
}

// R5: what was asked before changes no answer, nor what is spent for it.
func TestOrder(t *testing.T) {
	byEach(t, func(t *testing.T, x api.Table) {
		s := source(53)
		a, b := s.row(100), s.row(47)
		fresh, used := div.New(x), div.New(x)
		for m := range 30 {
			used.DivMod(s.row(3*m), s.row(m))
			used.Halves(s.row(2*m), s.row(m))
			used.Exact(s.row(2*m), s.row(m))
			used.Mod(s.row(2*m), s.row(m), s.row(3), b)
			used.Divides(s.row(m), s.row(2*m), a)
			used.DivMod(a, nil)
		}
		used.Enter()
		before := used.Muls()
		for _, e := range []*div.Engine{fresh, used} {
			askedQ, askedR := parted(a, b)
			q, r, err := e.DivMod(a, b)
			divided(t, "DivMod", q, r, askedQ, askedR, err)
			q, r, err = e.Halves(a, b)
			divided(t, "Halves", q, r, askedQ, askedR, err)
			list, _ := e.Mod(a, b, api.Nat{3}, b)
			words(t, "Mod", list[2], askedR)
			e.Divides(b, a, a)
		}
		is(t, "Muls", used.Muls()-before, fresh.Muls())
		is(t, "Now", used.Now(), 1)
	})
}
