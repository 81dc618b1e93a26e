package root

import (
	"math/big"
	"testing"

	"ziggurat/api"
	"ziggurat/limb"
	"ziggurat/table"
)

// A guess is put right by 1 at most, and the answers tell few of all guesses: so they are held against what is said of them, here within the package.

// someRows are numbers of so many binary digits, of all kinds.
func someRows(digits int) []api.Nat {
	top := limb.Shl(limb.One(1), digits-1)
	ones, _ := limb.Sub(limb.Shl(top, 1), limb.One(1))
	list := []api.Nat{top, ones, limb.Sum(limb.Low(limb.One(1), digits-1), top), limb.Sum(top, limb.Shr(top, 1)), limb.Sum(top, limb.Shr(top, digits/2+1))}
	x := uint64(digits)
	for range 4 {
		row := make(api.Nat, digits/64+1)
		for i := range row {
			x = x*6364136223846793005 + 1442695040888963407
			row[i] = x ^ x>>29
		}
		list = append(list, limb.Sum(top, limb.Low(row, digits-1)))
	}
	return list
}

func great(a api.Nat) *big.Int {
	x := new(big.Int)
	for i := len(a) - 1; i >= 0; i-- {
		x.Lsh(x, 64).Add(x, new(big.Int).SetUint64(a[i]))
	}
	return x
}

// far is how far the guess is above a's k-th root: 0, 1, 2 (or more), or -1 (or less).
func far(guess, a api.Nat, k int) int {
	x, asked, one := great(guess), great(a), big.NewInt(1)
	fits := func(x *big.Int) bool { return new(big.Int).Exp(x, big.NewInt(int64(k)), nil).Cmp(asked) <= 0 }
	switch {
	case fits(new(big.Int).Add(x, one)):
		return -1
	case fits(x):
		return 0
	case fits(x.Sub(x, one)):
		return 1
	}
	return 2
}

// Each guess is the root, or one more; both there are, for each k.
func TestNear(t *testing.T) {
	t.Parallel()
	e := New(table.Least(4, 12, 64, 4, 4096))
	for k := 2; k <= mostRoot; k++ {
		var times [2]int
		for digits := 1; digits < 4000; digits += 1 + digits/19 {
			for _, a := range someRows(digits) {
				off := far(e.near(a, k), a, k)
				if off < 0 || off > 1 {
					t.Fatalf("%x, k %d: off by %d", a, k, off)
				}
				times[off]++
			}
		}
		if times[0] < 20*times[1] {
			t.Errorf("k %d: off by 0, 1: %d", k, times)
		}
	}
}

// Next to a power the guess is one off at most, too: where the root is just below a number, it is that number most of all.
func TestNearAtPowers(t *testing.T) {
	t.Parallel()
	e := New(table.Least(4, 12, 64, 4, 4096))
	for k := 2; k <= mostRoot; k++ {
		spilt := 0
		for digits := 2; digits < 300; digits += 1 + digits/7 {
			for _, x := range someRows(digits) {
				p := e.power(x, k)
				below, _ := limb.Sub(p, limb.One(1))
				if off := far(e.near(p, k), p, k); off < 0 || off > 1 {
					t.Fatalf("%x to the %d: off by %d", x, k, off)
				}
				off := far(e.near(below, k), below, k)
				if off < 0 || off > 1 {
					t.Fatalf("1 less than %x to the %d: off by %d", x, k, off)
				}
				spilt += off
			}
		}
		if spilt == 0 {
			t.Errorf("k %d: no guess is above", k)
		}
	}
}

// The power by squares is the one by hand.
func TestPower(t *testing.T) {
	e := New(api.Table{})
	for k := range mostRoot + 1 {
		for _, x := range []api.Nat{nil, {1}, {2}, {10}, {^uint64(0)}, {5, 0, 7}} {
			if limb.Cmp(e.power(x, k), e.Power(x, k)) != 0 {
				t.Fatalf("%v to the %d", x, k)
			}
		}
	}
}
