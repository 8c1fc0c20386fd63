package nat_test

import (
	"math/big"
	"slices"
	"strings"
	"testing"

	"ligature/nat"
)

// P1.2
func TestString(t *testing.T) {
	for _, l := range samples() {
		if got, want := nat.Of(l...).String(), toBig(l).String(); got != want {
			t.Errorf("%v: %s, want %s", l, got, want)
		}
	}
	power, want := nat.Int(1), "1"
	for range 50 {
		if power.String() != want {
			t.Fatalf("a power of ten: %s, want %s", power, want)
		}
		if less, _ := power.Sub(nat.Int(1)); less.String() != strings.Repeat("9", len(want)-1) && want != "1" {
			t.Fatalf("less 1: %s", less)
		}
		power, want = power.Times(10), want+"0"
	}
}

// P1.2
func TestStringOfTheNeighboursOfTwoToThe64(t *testing.T) {
	for text, l := range map[string][]uint32{
		"18446744073709551615": {1<<32 - 1, 1<<32 - 1},
		"18446744073709551616": {0, 0, 1},
		"18446744073709551617": {1, 0, 1},
		"4294967295":           {1<<32 - 1},
		"4294967296":           {0, 1},
		"4294967297":           {1, 1},
		"0":                    nil,
	} {
		if got := nat.Of(l...).String(); got != text {
			t.Errorf("%v: %s, want %s", l, got, text)
		}
		n, ok := nat.Parse(text)
		if !ok || !slices.Equal(n.Limbs(), l) {
			t.Errorf("%s: %v, %v", text, n.Limbs(), ok)
		}
	}
}

// P1.2
func TestParse(t *testing.T) {
	for size := range 60 {
		for _, tail := range []string{"0", "9", "10203040506070809"} {
			text := "1" + strings.Repeat(tail, size+1)[:size]
			want, _ := new(big.Int).SetString(text, 10)
			n, ok := nat.Parse(text)
			if !ok {
				t.Fatalf("%s isn't read", text)
			}
			check(t, text, n, want)
		}
	}
	for digit := range 10 {
		n, ok := nat.Parse(string(rune('0' + digit)))
		if !ok {
			t.Fatalf("%d isn't read", digit)
		}
		check(t, "a digit", n, big.NewInt(int64(digit)))
	}
}

// P1.2
func TestParseOfWhatIsNoNumber(t *testing.T) {
	for _, text := range []string{
		"", "00", "01", "007", "00000000000000000000000000000000000001", "0000000000", "+1", "-1", "+0", "-0", "-", "+",
		" 1", "1 ", "1 2", "\n", "1\n", "\n1", "1.0", "1e3", "1_000", "1,000", "0x10", "0b1", "a", "1a", "a1", "/", ":", "1/", "1:", "/1", ":1",
		"\x00", "1\x00", "\x00" + "1", "\xb1", "1\xff", "\u0661", "\uff11", "123456789a", "a123456789", "1234567890:234567890", "0 ", "0a",
	} {
		n, ok := nat.Parse(text)
		if ok || len(n.Limbs()) != 0 || !n.Zero() {
			t.Errorf("%q: %s, %v", text, n, ok)
		}
	}
	for b := range 256 {
		_, ok := nat.Parse("5" + string([]byte{byte(b)}) + "5")
		if ok != (b >= '0' && b <= '9') {
			t.Errorf("byte %d in a number: %v", b, ok)
		}
	}
}

// P1.2
func TestParseOfTheLongestTexts(t *testing.T) {
	for _, text := range []string{strings.Repeat("9", 10000), "1" + strings.Repeat("0", 9999), strings.Repeat("1234567890", 1000)} {
		want, _ := new(big.Int).SetString(text, 10)
		n, ok := nat.Parse(text)
		if !ok || toBig(n.Limbs()).Cmp(want) != 0 || n.String() != text {
			t.Errorf("10000 bytes: %.20s.., %v", n, ok)
		}
	}
	for _, text := range []string{strings.Repeat("9", 10001), "1" + strings.Repeat("0", 10000), strings.Repeat("0", 10001), strings.Repeat("0", 10000), strings.Repeat("9", 9999) + "x", strings.Repeat("1", 100000)} {
		if n, ok := nat.Parse(text); ok || !n.Zero() {
			t.Errorf("%d bytes: %.20s.., %v", len(text), n, ok)
		}
	}
}

// P1.2: what is printed may be longer than what is read.
func TestStringOfMoreThanTheLongestText(t *testing.T) {
	longest, _ := nat.Parse(strings.Repeat("9", 10000))
	more := longest.Add(nat.Int(1))
	if more.String() != "1"+strings.Repeat("0", 10000) {
		t.Errorf("10^10000: %.20s..", more)
	}
	if _, ok := nat.Parse(more.String()); ok {
		t.Error("10001 bytes are read")
	}
}

// P1.3
func TestSumsAndDifferencesUndoEachOther(t *testing.T) {
	for _, x := range samples() {
		for _, y := range samples() {
			a, b := nat.Of(x...), nat.Of(y...)
			if back, ok := a.Add(b).Sub(b); !ok || back.Compare(a) != 0 {
				t.Fatalf("%s + %s - %s: %s", a, b, b, back)
			}
			if less, ok := a.Sub(b); ok && less.Add(b).Compare(a) != 0 {
				t.Fatalf("%s - %s + %s: %s", a, b, b, less.Add(b))
			}
			if a.Add(b).Compare(b.Add(a)) != 0 || a.Product(b).Compare(b.Product(a)) != 0 {
				t.Fatalf("%s and %s in another order", a, b)
			}
		}
	}
}

// P1.3
func TestProductsAndQuotientsUndoEachOther(t *testing.T) {
	for _, x := range samples() {
		for _, n := range []uint32{1, 2, 10, 999999999, 1 << 31, 1<<32 - 1} {
			a := nat.Of(x...)
			if q, rest := a.Times(n).Add(nat.Int(uint64(n - 1))).Divide(n); q.Compare(a) != 0 || rest != n-1 {
				t.Fatalf("(%s * %d + %d) / %d: %s, %d", a, n, n-1, n, q, rest)
			}
			if a.Times(n).Compare(a.Product(nat.Of(n))) != 0 {
				t.Fatalf("%s times %d isn't the product", a, n)
			}
			q, rest := a.Divide(n)
			if q.Times(n).Add(nat.Of(rest)).Compare(a) != 0 || rest >= n {
				t.Fatalf("%s / %d: %s, %d", a, n, q, rest)
			}
		}
	}
}

// P1.3
func TestPrintedIsReadAsItWas(t *testing.T) {
	for _, l := range samples() {
		n := nat.Of(l...)
		back, ok := nat.Parse(n.String())
		if !ok || back.Compare(n) != 0 || !slices.Equal(back.Limbs(), l) || back.String() != n.String() {
			t.Errorf("%s is read as %s, %v", n, back, ok)
		}
	}
}
