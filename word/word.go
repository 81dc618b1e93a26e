// Package word: words, and pairs and triples of them.
package word

import "math/bits"

// least is the least word whose top bit is set: the divisors that have an inverse begin here.
const least = uint64(1) << 63

// Add answers a + b, and 1 more if carry is not 0, as (out, sum).
func Add(a, b, carry uint64) (sum, out uint64) {
	return bits.Add64(a, b, flag(carry))
}

// Sub answers a - b, and 1 less if borrow is not 0, as diff - out B.
func Sub(a, b, borrow uint64) (diff, out uint64) {
	return bits.Sub64(a, b, flag(borrow))
}

// flag makes a carry of any size one that package bits takes: it promises nothing of those above 1.
func flag(carry uint64) uint64 {
	if carry != 0 {
		return 1
	}
	return 0
}

// Mul answers a b as (hi, lo).
func Mul(a, b uint64) (hi, lo uint64) {
	return bits.Mul64(a, b)
}

// Div answers quotient and remainder of (hi, lo) by d; false, unless hi is below d.
func Div(hi, lo, d uint64) (q, r uint64, ok bool) {
	if hi >= d {
		return 0, 0, false
	}
	q, r = bits.Div64(hi, lo, d)
	return q, r, true
}

// Inverse answers (B B - 1) / d, rounded down, less B; false, unless d is 2 to the 63 at least.
func Inverse(d uint64) (uint64, bool) {
	if d < least {
		return 0, false
	}
	return inverse(d), true
}

// inverse takes d B away ahead of the division, so that the quotient is a word: what is left of B B - 1 is (B - 1 - d, B - 1).
func inverse(d uint64) uint64 {
	v, _ := bits.Div64(^d, ^uint64(0), d)
	return v
}

// DivBy is Div with v, d's Inverse, at hand; false, unless hi is below d, and d is 2 to the 63 at least.
func DivBy(hi, lo, d, v uint64) (q, r uint64, ok bool) {
	if d < least || hi >= d {
		return 0, 0, false
	}
	top, low := bits.Mul64(v, hi)
	low, carry := bits.Add64(low, lo, 0)
	top, _ = bits.Add64(top, hi, carry)
	// The quotient is q or a neighbour of it, and the remainder is reckoned modulo B. One that has gone below 0 is above low there; one that is above low all the same is so small that the second step takes the first one back.
	q = top + 1
	r = lo - q*d
	if r > low {
		q--
		r += d
	}
	if r >= d {
		q++
		r -= d
	}
	return q, r, true
}

// Inverse2 answers (B B B - 1) / (d1, d0), rounded down, less B; false, unless d1 is 2 to the 63 at least.
func Inverse2(d1, d0 uint64) (uint64, bool) {
	if d1 < least {
		return 0, false
	}
	v, rest := lowerByWord(inverse(d1), d1, d0)
	return lowerByProduct(v, rest, d1, d0), true
}

// lowerByWord lowers v, the inverse of d1, to that of (d1, d0) as far as d0 itself asks for it, d0 taken once. With it goes the part of the remainder that the next step needs.
func lowerByWord(v, d1, d0 uint64) (lower, rest uint64) {
	rest, carry := bits.Add64(d1*v, d0, 0)
	if carry == 0 {
		return v, rest
	}
	v--
	if rest >= d1 {
		v--
		rest -= d1
	}
	return v, rest - d1
}

// lowerByProduct lowers v as far as v d0, which the step before left out, asks for it.
func lowerByProduct(v, rest, d1, d0 uint64) uint64 {
	top, low := bits.Mul64(v, d0)
	rest, carry := bits.Add64(rest, top, 0)
	if carry == 0 {
		return v
	}
	v--
	if !below(rest, low, d1, d0) {
		v--
	}
	return v
}

// Div3 answers quotient and remainder of (a2, a1, a0) by (d1, d0), with v its Inverse2; false, unless d1 is 2 to the 63 at least, and (a2, a1) is below (d1, d0).
func Div3(a2, a1, a0, d1, d0, v uint64) (q, r1, r0 uint64, ok bool) {
	if d1 < least || !below(a2, a1, d1, d0) {
		return 0, 0, 0, false
	}
	top, low := bits.Mul64(v, a2)
	low, carry := bits.Add64(low, a1, 0)
	top, _ = bits.Add64(top, a2, carry)
	// As in DivBy, but the remainder is reckoned modulo B B, and its upper word alone is held against low.
	q = top + 1
	t1, t0 := bits.Mul64(top, d0)
	r1, r0 = minus(a1-top*d1, a0, t1, t0)
	r1, r0 = minus(r1, r0, d1, d0)
	if r1 >= low {
		q--
		r1, r0 = plus(r1, r0, d1, d0)
	}
	if !below(r1, r0, d1, d0) {
		q++
		r1, r0 = minus(r1, r0, d1, d0)
	}
	return q, r1, r0, true
}

// below says whether (a1, a0) is below (b1, b0).
func below(a1, a0, b1, b0 uint64) bool {
	return a1 < b1 || a1 == b1 && a0 < b0
}

// plus is (a1, a0) + (b1, b0), modulo B B.
func plus(a1, a0, b1, b0 uint64) (hi, lo uint64) {
	lo, carry := bits.Add64(a0, b0, 0)
	hi, _ = bits.Add64(a1, b1, carry)
	return hi, lo
}

// minus is (a1, a0) - (b1, b0), modulo B B.
func minus(a1, a0, b1, b0 uint64) (hi, lo uint64) {
	lo, borrow := bits.Sub64(a0, b0, 0)
	hi, _ = bits.Sub64(a1, b1, borrow)
	return hi, lo
}

// Sum answers the sum of all, modulo B B.
func Sum(l ...uint64) (hi, lo uint64) {
	for _, w := range l {
		hi, lo = plus(hi, lo, 0, w)
	}
	return hi, lo
}

// Dot answers the sum of the products of what stands at the same place in both, modulo B B B.
func Dot(a, b []uint64) (w2, w1, w0 uint64) {
	for i := range min(len(a), len(b)) {
		hi, lo := bits.Mul64(a[i], b[i])
		var carry uint64
		w0, carry = bits.Add64(w0, lo, 0)
		w1, carry = bits.Add64(w1, hi, carry)
		w2 += carry
	}
	return w2, w1, w0
}
