package recip

import (
	"math/big"
	"testing"

	"ziggurat/api"
	"ziggurat/limb"
	"ziggurat/table"
)

// A guess that is far off is put right one by one, and the answer does not tell it: so the guesses are held against what is said of them, here within the package.

// someRows are divisors of b binary digits, of all kinds.
func someRows(b int) []api.Nat {
	top := power(b - 1)
	ones, _ := limb.Sub(power(b), limb.One(1))
	half := limb.Shr(ones, b/2)
	list := []api.Nat{top, ones}
	if b > 1 {
		list = append(list, limb.Sum(top, limb.One(1)), limb.Sum(top, limb.Shr(top, b/2)), limb.Sum(top, limb.Low(half, b-1)))
	}
	x := uint64(b)
	for range 5 {
		row := make(api.Nat, b/64+1)
		for i := range row {
			x = x*6364136223846793005 + 1442695040888963407
			row[i] = x ^ x>>29
		}
		list = append(list, limb.Sum(top, limb.Low(row, b-1)))
	}
	return list
}

func great(a api.Nat) *big.Int {
	x := new(big.Int)
	for i := len(a) - 1; i >= 0; i-- {
		x.Lsh(x, 64).Add(x, new(big.Int).SetUint64(a[i]))
	}
	return x
}

// off is a d - p: how far a is off p over d, times d.
func off(a, d, p api.Nat) *big.Int {
	x := new(big.Int).Mul(great(a), great(d))
	return x.Sub(x, great(p))
}

// Each guess is less than 2 off: so each step doubles what is right.
func TestNear(t *testing.T) {
	e := New(table.Least(4, 12, 64, 4, 4))
	for _, b := range []int{1, 2, 3, 10, 59, 60, 61, 63, 64, 65, 100, 128, 130, 191, 192, 193, 257, 400, 1000, 2000} {
		for _, d := range someRows(b) {
			twice := new(big.Int).Lsh(great(d), 1)
			for k := -1; k < 2000; k += 1 + k/40 {
				if x := off(e.near(d, k), d, power(k+b)); x.CmpAbs(twice) >= 0 {
					t.Fatalf("%d digits, k %d: %x", b, k, d)
				}
			}
		}
	}
}

// A quotient by the true reciprocal is guessed right, or 1 or 2 too low.
func TestGuess(t *testing.T) {
	e := New(table.Least(4, 12, 64, 4, 4))
	for _, b := range []int{1, 2, 3, 10, 63, 64, 65, 130, 257, 400} {
		for _, d := range someRows(b) {
			thrice := new(big.Int).Mul(great(d), big.NewInt(3))
			for n := 0; n < 900; n += 1 + n/20 {
				v, _ := e.Recip(d, n)
				for digits := 1; digits <= n; digits += 1 + digits/5 {
					for _, a := range append(someRows(digits), nil, power(n)) {
						x := off(e.guess(a, d, v, n), d, a)
						if x.Sign() > 0 || x.CmpAbs(thrice) >= 0 {
							t.Fatalf("%d by %d digits, n %d", a.Bits(), b, n)
						}
					}
				}
			}
		}
	}
}
