// Package nat is layer 1: numbers as great as may be.
package nat

import "cmp"

const limbBits = 32

// Nat is a number from 0 on. Nothing writes to its limbs once it is made, so copies of it may share them.
type Nat struct {
	limbs []uint32 // the lowest first, the last one isn't 0; nil of 0, as in the zero Nat
}

// Of is a number of limbs.
func Of(l ...uint32) Nat {
	return Nat{cut(copied(l))}
}

// Int is a small number.
func Int(n uint64) Nat {
	return Of(uint32(n), uint32(n>>limbBits))
}

// Limbs is a number's limbs.
func (a Nat) Limbs() []uint32 {
	return copied(a.limbs)
}

// Zero tells whether a number is 0.
func (a Nat) Zero() bool {
	return len(a.limbs) == 0
}

// Compare tells which of two is greater.
func (a Nat) Compare(b Nat) int {
	if order := cmp.Compare(len(a.limbs), len(b.limbs)); order != 0 {
		return order
	}
	for i := range len(a.limbs) {
		k := len(a.limbs) - 1 - i
		if order := cmp.Compare(a.limbs[k], b.limbs[k]); order != 0 {
			return order
		}
	}
	return 0
}

// Uint64 is a number that is small.
func (a Nat) Uint64() (uint64, bool) {
	if len(a.limbs) > 2 {
		return 0, false
	}
	return uint64(limbAt(a.limbs, 1))<<limbBits | uint64(limbAt(a.limbs, 0)), true
}

// copied is l in memory of its own, so that neither side can write to the other one's.
func copied(l []uint32) []uint32 {
	own := make([]uint32, len(l))
	copy(own, l)
	return own
}

// cut is l without the noughts at its end. It leaves no room to spare, lest something be appended where other limbs stand.
func cut(l []uint32) []uint32 {
	for i := range len(l) {
		n := len(l) - i
		if l[n-1] != 0 {
			return l[:n:n]
		}
	}
	return nil
}

// limbAt spares its callers a case of their own for what stands above the last limb.
func limbAt(l []uint32, i int) uint32 {
	if i < len(l) {
		return l[i]
	}
	return 0
}
