package div

import (
	"math/big"
	"slices"
	"testing"

	"ziggurat/api"
	"ziggurat/limb"
	"ziggurat/table"
)

// A half's quotient that is far off is put right one by one, and the answer does not tell it: so it is held here, within the package. So are the tree's rows.

func great(a api.Nat) *big.Int {
	x := new(big.Int)
	for _, w := range slices.Backward(a) {
		x.Lsh(x, 64).Add(x, new(big.Int).SetUint64(w))
	}
	return x
}

func same(x uint64, n int) api.Nat { return slices.Repeat(api.Nat{x}, n) }

// some are rows of n words: the least, the greatest, those next to them, and any.
func some(n int) []api.Nat {
	list := []api.Nat{same(0, n), same(^uint64(0), n)}
	for i := range min(n, 1) {
		one, less := same(0, n), same(^uint64(0), n)
		one[i], less[i] = 1, ^uint64(1)
		list = append(list, one, less)
	}
	x := uint64(n)
	for range 3 {
		row := make(api.Nat, n)
		for i := range row {
			x = x*6364136223846793005 + 1442695040888963407
			row[i] = x ^ x>>29
		}
		list = append(list, row)
	}
	return list
}

// divisors are rows of m words whose top bit is set: all kinds of upper and of lower words.
func divisors(m int) []api.Nat {
	var list []api.Nat
	for _, upper := range some(m - m/2) {
		upper[len(upper)-1] |= 1 << 63
		for _, low := range some(m / 2) {
			list = append(list, slices.Concat(low, upper))
		}
	}
	return list
}

// What the upper halves tell is the quotient of a half, or one or two more; each of these there is, and a quotient that has no room in a half, too.
func TestHalfIsNear(t *testing.T) {
	e := New(table.Least(4, 12, 64, 4, 4096))
	var times [3]int
	spilt := 0
	for m := 4; m < 12; m++ {
		h := m / 2
		for _, b := range divisors(m) {
			for _, low := range some(h) {
				for _, rest := range append(some(m), b[:m-1], limb.Shr(b, 1), below(b), slices.Concat(same(0, h), b[h:])) {
					if limb.Cmp(rest, b) >= 0 {
						continue
					}
					a := slices.Concat(low, rest)
					guess, _ := e.halves(trim(rest), b[h:])
					far := new(big.Int).Sub(great(guess), new(big.Int).Quo(great(a), great(b)))
					if far.Sign() < 0 || far.Cmp(big.NewInt(2)) > 0 {
						t.Fatalf("%x by %x: off by %d", a, b, far)
					}
					times[far.Int64()]++
					if len(guess) > h {
						spilt++
					}
				}
			}
		}
	}
	if slices.Contains(times[:], 0) || spilt == 0 {
		t.Errorf("off by 0, 1, 2: %d; spilt: %d", times, spilt)
	}
}

// below is b - 1.
func below(b api.Nat) api.Nat {
	a, _ := limb.Sub(b, limb.One(1))
	return a
}

// The rows of a tree are the list, the products of each two, and so on; a 0 stands just for those that are too long, and what they are made of is at most one digit too long.
func TestTree(t *testing.T) {
	e := New(api.Table{})
	for count := range 20 {
		var l []api.Nat
		for i := range count {
			l = append(l, api.Nat{1<<(i*7%20+1) - uint64(i%4), uint64(i % 5 / 3)})
		}
		for digits := 0; digits < 900; digits += 1 + digits/200 {
			rows := e.tree(l, digits)
			if len(rows) == 0 || len(rows[0]) != count || len(rows[len(rows)-1]) > 1 {
				t.Fatalf("%d numbers: %d rows", count, len(rows))
			}
			for i, row := range rows[1:] {
				if len(row) != (len(rows[i])+1)/2 {
					t.Fatalf("%d numbers: row %d has %d", count, i+1, len(row))
				}
				for k, p := range row {
					checkProduct(t, p, digits, l[k<<(i+1):min(count, (k+1)<<(i+1))])
				}
			}
		}
	}
}

// checkProduct holds a product of these, or the 0 in its place.
func checkProduct(t *testing.T, p api.Nat, digits int, l []api.Nat) {
	t.Helper()
	asked := big.NewInt(1)
	for _, a := range l {
		asked.Mul(asked, great(a))
	}
	switch {
	case p.Zero() && asked.BitLen() <= digits:
		t.Fatalf("a product of %d digits is not there, %d are not too many", asked.BitLen(), digits)
	case !p.Zero() && great(p).Cmp(asked) != 0:
		t.Fatalf("a product is %x; asked is %x", great(p), asked)
	case len(l) > 1 && p.Bits() > digits+1:
		t.Fatalf("a product has %d digits, beyond %d", p.Bits(), digits)
	}
}
