package num_test

import (
	"fmt"
	"math"
	"math/big"
	"slices"
	"testing"

	"ziggurat/api"
	"ziggurat/num"
)

// P18.1: numbers, their signs, and sums

// someInts are ints at all edges.
func someInts() []int {
	list := []int{0, 1, -1, 2, -2, 7, -7, 10, -10, math.MinInt, math.MinInt + 1, math.MinInt + 2, math.MaxInt, math.MaxInt - 1, math.MaxInt - 2}
	for bit := range 63 {
		x := 1 << bit
		list = append(list, x, x-1, x+1, -x, -x-1, -x+1)
	}
	return list
}

func TestOf(t *testing.T) {
	for _, n := range someInts() {
		whole(t, fmt.Sprintf("Of %d", n), num.Of(n), big.NewInt(int64(n)))
	}
}

func TestNormNegAbs(t *testing.T) {
	for _, x := range numbers(300) {
		for _, a := range forms(x) {
			asked := great(a)
			whole(t, "Norm", num.Norm(a), asked)
			whole(t, "Neg", num.Neg(a), new(big.Int).Neg(asked))
			whole(t, "Neg of Neg", num.Neg(num.Neg(a)), asked)
			whole(t, "Abs", num.Abs(a), new(big.Int).Abs(asked))
		}
	}
}

// Sums of ints are known by hand.
func TestSmallSums(t *testing.T) {
	for a := -20; a <= 20; a++ {
		for b := -20; b <= 20; b++ {
			x, y := num.Of(a), num.Of(b)
			whole(t, "Add", num.Add(x, y), big.NewInt(int64(a+b)))
			whole(t, "Sub", num.Sub(x, y), big.NewInt(int64(a-b)))
			whole(t, "Sum", num.Sum(x, y), big.NewInt(int64(a+b)))
			asked := 0
			if a < b {
				asked = -1
			}
			if a > b {
				asked = 1
			}
			is(t, "Cmp", num.Cmp(x, y), asked)
		}
	}
}

func TestSums(t *testing.T) {
	t.Parallel()
	list := numbers(40)
	for _, a := range list {
		for _, b := range list {
			checkSums(t, a, b)
		}
	}
	list = numbers(400)
	for i, a := range list {
		for _, b := range list[i%7:][:len(list)-7] {
			if a.Len() > 40 || b.Len() > 40 {
				checkSums(t, a, b)
			}
		}
	}
}

// Each number may be handed in with zero words on top, and a 0 with Neg, at each place.
func TestForms(t *testing.T) {
	t.Parallel()
	list := []api.Int{{}, up(same(half, 3)), down(same(half, 3)), up(api.Nat{1}), down(api.Nat{1}), up(same(most, 2)), down(same(most, 2)), down(api.Nat{0, 0, 0, 1})}
	for _, x := range list {
		for _, y := range list {
			for _, a := range forms(x) {
				for _, b := range forms(y) {
					checkSums(t, a, b)
				}
			}
		}
	}
	// A 0 of the greatest length is one, too.
	for _, zero := range zeros() {
		for _, a := range list {
			checkSums(t, zero, a)
			checkSums(t, a, zero)
		}
		for _, other := range zeros() {
			checkSums(t, zero, other)
		}
	}
}

// What is contrary adds to 0, what is alike subtracts to 0, and is one, in each form.
func TestContrary(t *testing.T) {
	t.Parallel()
	for _, x := range numbers(300) {
		for _, a := range forms(x) {
			for _, b := range forms(x) {
				whole(t, of{"Sub", a, b}, num.Sub(a, b), new(big.Int))
				is(t, of{"Cmp", a, b}, num.Cmp(a, b), 0)
				other := contrary(b)
				whole(t, of{"Add", a, other}, num.Add(a, other), new(big.Int))
				whole(t, of{"Add", other, a}, num.Add(other, a), new(big.Int))
				whole(t, of{"Sum", a, other}, num.Sum(a, other), new(big.Int))
				is(t, of{"Cmp", a, other}, num.Cmp(a, other), a.Sign())
			}
		}
	}
}

// Cmp goes by signs first, by lengths and by words next: here each number is above those ahead of it.
func TestCmpInOrder(t *testing.T) {
	sizes := []api.Nat{{1}, {2}, {half - 1}, {half}, {most - 1}, {most}, {0, 1}, {1, 1}, {most, 1}, {0, 2}, {5, most}, {most, most}, {0, 0, 1}, same(most, 7), slices.Concat(same(0, 7), api.Nat{1}), same(1, 8), same(2, 8)}
	var list []api.Int
	for _, a := range slices.Backward(sizes) {
		list = append(list, down(a))
	}
	list = append(list, api.Int{Nat: api.Nat{0}, Neg: true})
	for _, a := range sizes {
		list = append(list, up(a))
	}
	for i, a := range list {
		for j, b := range list {
			asked := 0
			if i < j {
				asked = -1
			}
			if i > j {
				asked = 1
			}
			is(t, of{"Cmp", a, b}, num.Cmp(a, b), asked)
			is(t, "Cmp", num.Cmp(api.Int{Nat: topped(a.Nat, 3), Neg: a.Neg}, b), asked)
			is(t, "Cmp", num.Cmp(a, api.Int{Nat: topped(b.Nat, 3), Neg: b.Neg}), asked)
		}
	}
}

// total is what numbers sum to.
func total(list []api.Int) *big.Int {
	sum := new(big.Int)
	for _, a := range list {
		sum.Add(sum, great(a))
	}
	return sum
}

func TestSumOfFew(t *testing.T) {
	whole(t, "Sum of none", num.Sum(), new(big.Int))
	whole(t, "Sum of an empty list", num.Sum([]api.Int{}...), new(big.Int))
	for _, x := range numbers(300) {
		for _, a := range forms(x) {
			whole(t, "Sum of one", num.Sum(a), great(x))
		}
	}
	for _, a := range zeros() {
		whole(t, "Sum of a 0", num.Sum(a), new(big.Int))
		whole(t, "Sum of zeros", num.Sum(a, a, contrary(a)), new(big.Int))
		whole(t, "Sum with a 0", num.Sum(a, num.Of(-5), a, num.Of(3)), big.NewInt(-2))
	}
	whole(t, "Sum of zeros", num.Sum(zeros()...), new(big.Int))
	small := []int{0, 1, -1, 5, -5, math.MaxInt, math.MinInt}
	for _, a := range small {
		for _, b := range small {
			for _, c := range small {
				list := []api.Int{num.Of(a), num.Of(b), num.Of(c)}
				whole(t, "Sum of three", num.Sum(list...), total(list))
			}
		}
	}
}

func TestSumOfMany(t *testing.T) {
	t.Parallel()
	s := source(41)
	for _, n := range []int{4, 5, 17, 100, 1000, api.MaxTerms} {
		for _, length := range []int{1, 2, 30} {
			var any, alike, none []api.Int
			for range n {
				a := api.Int{Nat: s.row(int(s.next()>>3) % (length + 1)), Neg: s.next()>>7&1 == 1}
				any = append(any, a)
				alike = append(alike, down(topped(same(most, length), 1)))
				none = append(none, a, contrary(a))
			}
			told := fmt.Sprintf("Sum of %d", n)
			whole(t, told, num.Sum(any...), total(any))
			slices.Reverse(any)
			whole(t, told+", the last first", num.Sum(any...), total(any))
			whole(t, told+" below 0", num.Sum(alike...), total(alike))
			for i := range alike {
				alike[i].Neg = false
			}
			whole(t, told+" above 0", num.Sum(alike...), total(alike))
			whole(t, told+" that sum to 0", num.Sum(none...), new(big.Int))
			whole(t, told+" that sum to 1", num.Sum(append(none, num.Of(1))...), big.NewInt(1))
		}
	}
}

// What is added on the way may be far greater than what is left.
func TestSumOfContraries(t *testing.T) {
	for _, n := range []int{1, 2, 50, 300} {
		great, far := same(most, n), slices.Concat(same(0, n), api.Nat{1})
		for _, one := range []int{-1, 1} {
			list := []api.Int{up(far), down(great), num.Of(one), down(great), up(far)}
			whole(t, "Sum", num.Sum(list...), big.NewInt(int64(2+one)))
			for i := range list {
				list[i] = contrary(list[i])
			}
			whole(t, "Sum", num.Sum(list...), big.NewInt(int64(-2-one)))
		}
	}
}

// The greatest numbers that may be handed in.
func TestGreatest(t *testing.T) {
	t.Parallel()
	s := source(42)
	for _, a := range []api.Nat{same(most, api.MaxWords), s.row(api.MaxWords)} {
		for _, b := range []api.Nat{{1}, same(most, api.MaxWords), s.row(api.MaxWords / 2)} {
			for _, pair := range signs(a, b) {
				checkSums(t, pair[0], pair[1])
			}
		}
	}
}

// One row may stand at several places.
func TestOneRow(t *testing.T) {
	for _, x := range numbers(300) {
		for _, a := range forms(x) {
			checkSums(t, a, a)
			checkSums(t, a, api.Int{Nat: a.Nat, Neg: !a.Neg})
			list := []api.Int{a, a, {Nat: a.Nat, Neg: !a.Neg}, a}
			whole(t, "Sum", num.Sum(list...), total(list))
		}
	}
}

// What api.Int has of api.Nat is its own.
func TestPromotedOfInts(t *testing.T) {
	for _, x := range numbers(100) {
		size := new(big.Int).Abs(great(x))
		for _, a := range append(forms(x), num.Norm(x), num.Abs(x)) {
			is(t, "Bits", a.Bits(), size.BitLen())
			is(t, "Len", a.Len(), (size.BitLen()+63)/64)
			if a.Zero() != (size.Sign() == 0) {
				t.Fatalf("Zero of %x: %v", a.Nat, a.Zero())
			}
			is(t, "Sign", a.Sign(), great(a).Sign())
			for _, place := range []int{0, 1, 62, 63, 64, 65, 127, 128, size.BitLen() - 1, size.BitLen(), 64 * len(a.Nat), 1 << 40} {
				asked := 0
				if place >= 0 {
					asked = int(size.Bit(place))
				}
				is(t, of{"a bit", a, num.Of(place)}, int(a.Bit(place)), asked)
			}
		}
	}
	for _, place := range []int{-1, -64, math.MinInt} {
		is(t, "Bit below 0", int(num.Of(-1).Bit(place)), 0)
	}
	is(t, "Bits of -4", num.Of(-4).Bits(), 3)
}
