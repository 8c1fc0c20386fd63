package nat

import "slices"

// As many decimal digits as one limb holds are made and read at a time, since each time costs a walk along the limbs.
const (
	groupDigits = 9
	groupSize   = 1000000000
)

const mostDigits = 10000 // bytes of a text that is read

// String is a number's decimal digits.
func (a Nat) String() string {
	if a.Zero() {
		return "0"
	}
	var digits []byte // the lowest first
	left := a.Limbs()
	for len(left) > 0 {
		group := divideBy(left, groupSize)
		left = cut(left)
		for range groupDigits {
			digits = append(digits, '0'+byte(group%10))
			group /= 10
		}
	}
	for digits[len(digits)-1] == '0' { // ends: a number that isn't 0 has another digit
		digits = digits[:len(digits)-1]
	}
	slices.Reverse(digits)
	return string(digits)
}

// Parse is the number of decimal digits.
func Parse(s string) (Nat, bool) {
	if len(s) > mostDigits || !isPrinted(s) {
		return Nat{}, false
	}
	var l []uint32
	for len(s) > 0 {
		n := (len(s)-1)%groupDigits + 1 // the first group takes what is odd, all others are full
		l = cut(timesPlus(l, groupSize, groupValue(s[:n])))
		s = s[n:]
	}
	return Nat{l}, true
}

// isPrinted tells whether s are digits as String writes them.
func isPrinted(s string) bool {
	for i := range len(s) {
		if s[i] < '0' || s[i] > '9' {
			return false
		}
	}
	return s == "0" || s != "" && s[0] != '0'
}

func groupValue(s string) uint32 {
	var value uint32
	for i := range len(s) {
		value = value*10 + uint32(s[i]-'0')
	}
	return value
}
