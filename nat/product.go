package nat

import "math/bits"

// Times is a number so many times.
func (a Nat) Times(n uint32) Nat {
	return Nat{cut(timesPlus(a.Limbs(), n, 0))}
}

// Product is a number times all others.
func (a Nat) Product(more ...Nat) Nat {
	product := Of(a.limbs...)
	for _, b := range more {
		product = Nat{cut(multiplied(product.limbs, b.limbs))}
	}
	return product
}

// Divide is the quotient and the rest.
func (a Nat) Divide(n uint32) (Nat, uint32) {
	if n == 0 {
		return Nat{}, 0
	}
	quotient := a.Limbs()
	rest := divideBy(quotient, n)
	return Nat{cut(quotient)}, rest
}

// timesPlus makes l times n plus m of l, whose memory must be the caller's own, since it is written to.
func timesPlus(l []uint32, n, m uint32) []uint32 {
	carry := uint64(m)
	for i := range len(l) {
		carry += uint64(l[i]) * uint64(n)
		l[i] = uint32(carry)
		carry >>= limbBits
	}
	return append(l, uint32(carry))
}

// multiplied is the product, with noughts at its end perhaps.
func multiplied(a, b []uint32) []uint32 {
	product := make([]uint32, len(a)+len(b))
	for i := range len(a) {
		var carry uint64
		for k := range len(b) {
			carry += uint64(a[i])*uint64(b[k]) + uint64(product[i+k]) // at most 2^64 - 1, whatever the three are
			product[i+k] = uint32(carry)
			carry >>= limbBits
		}
		product[i+len(b)] = uint32(carry)
	}
	return product
}

// divideBy makes the quotient of l, whose memory must be the caller's own, and answers the rest; n isn't 0.
func divideBy(l []uint32, n uint32) uint32 {
	var rest uint32
	for i := range len(l) {
		k := len(l) - 1 - i
		l[k], rest = bits.Div32(rest, l[k], n) // the rest is below n: no panic
	}
	return rest
}
