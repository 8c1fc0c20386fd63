package nat

import "math/bits"

// Add is the sum of all.
func (a Nat) Add(more ...Nat) Nat {
	sum := a.Limbs()
	for _, b := range more {
		sum = raise(sum, b.limbs)
	}
	return Nat{cut(sum)}
}

// Sub is the difference of two.
func (a Nat) Sub(b Nat) (Nat, bool) {
	if a.Compare(b) < 0 {
		return Nat{}, false
	}
	left := a.Limbs()
	var borrow uint32
	for i := range len(left) {
		left[i], borrow = bits.Sub32(left[i], limbAt(b.limbs, i), borrow)
	}
	return Nat{cut(left)}, true
}

// raise adds b to sum, whose memory must be the caller's own, since it is written to.
func raise(sum, b []uint32) []uint32 {
	if len(sum) < len(b) {
		sum = append(sum, make([]uint32, len(b)-len(sum))...)
	}
	var carry uint32
	for i := range len(sum) {
		if i >= len(b) && carry == 0 { // many small numbers must not cost as many walks along a great sum
			return sum
		}
		sum[i], carry = bits.Add32(sum[i], limbAt(b, i), carry)
	}
	return append(sum, carry)
}
