package nat_test

import (
	"math"
	"math/big"
	"reflect"
	"slices"
	"testing"

	"ligature/nat"
)

// samples are numbers of no limb up to some, at the edges of limbs and of groups of decimal digits, and others.
func samples() [][]uint32 {
	const full = math.MaxUint32
	list := [][]uint32{
		nil, {1}, {2}, {9}, {10}, {11}, {97}, {255}, {65536},
		{999999999}, {1000000000}, {1000000001}, {1 << 31}, {full - 1}, {full},
		{0, 1}, {1, 1}, {full, 1}, {5, 0, 7}, {0, 1 << 31}, {full, full>>1 + 1},
		{full - 1, full}, {full, full}, {0, 0, 1}, {1, 0, 1}, {full, full, 1},
		{full, full, full}, {0, 0, 0, 1}, {1, 0, 0, 1}, {0, 0, 0, 0, 0, 0, 0, 1},
	}
	state := uint32(12345)
	for n := range 14 {
		l := make([]uint32, n+1)
		for i := range l {
			state = state*1664525 + 1013904223
			l[i] = state | 1
		}
		list = append(list, l)
	}
	return append(list, slices.Repeat([]uint32{full}, 9), slices.Repeat([]uint32{full}, 40))
}

func toBig(l []uint32) *big.Int {
	sum := new(big.Int)
	for i := len(l) - 1; i >= 0; i-- {
		sum.Lsh(sum, 32)
		sum.Or(sum, new(big.Int).SetUint64(uint64(l[i])))
	}
	return sum
}

// check holds a number against the one that it should be, by all that tells it.
func check(t *testing.T, what string, got nat.Nat, want *big.Int) {
	t.Helper()
	l := got.Limbs()
	if len(l) > 0 && l[len(l)-1] == 0 {
		t.Fatalf("%s: noughts at the end of the limbs %v", what, l)
	}
	if toBig(l).Cmp(want) != 0 {
		t.Fatalf("%s: limbs %v, want %s", what, l, want)
	}
	if got.String() != want.String() {
		t.Fatalf("%s: printed %s, want %s", what, got, want)
	}
	if got.Zero() != (want.Sign() == 0) {
		t.Fatalf("%s: Zero of %s: %v", what, want, got.Zero())
	}
}

// P1.1
func TestOfTakesLimbsTheLowestFirst(t *testing.T) {
	for _, l := range samples() {
		check(t, "Of", nat.Of(l...), toBig(l))
	}
	if s := nat.Of(0, 1).String(); s != "4294967296" {
		t.Errorf("Of(0, 1): %s", s)
	}
}

// P1.1
func TestOfCountsNoughtsAtTheEndForNothing(t *testing.T) {
	for _, l := range samples() {
		for noughts := range 5 {
			n := nat.Of(append(slices.Clone(l), make([]uint32, noughts)...)...)
			check(t, "Of with noughts", n, toBig(l))
			if !slices.Equal(n.Limbs(), l) || n.Compare(nat.Of(l...)) != 0 {
				t.Fatalf("%d noughts behind %v: %v", noughts, l, n.Limbs())
			}
		}
	}
}

// P1.1
func TestZeroNatIsNought(t *testing.T) {
	var zero nat.Nat
	for _, n := range []nat.Nat{zero, nat.Of(), nat.Of(0), nat.Of(0, 0, 0), nat.Int(0)} {
		check(t, "0", n, new(big.Int))
		if len(n.Limbs()) != 0 || n.Compare(zero) != 0 || zero.Compare(n) != 0 || !reflect.DeepEqual(n, zero) {
			t.Errorf("0 isn't the zero Nat: %v", n.Limbs())
		}
		if small, ok := n.Uint64(); small != 0 || !ok {
			t.Errorf("Uint64 of 0: %d, %v", small, ok)
		}
	}
	seven := nat.Int(7)
	check(t, "0 + 7", zero.Add(seven), big.NewInt(7))
	check(t, "7 + 0", seven.Add(zero), big.NewInt(7))
	check(t, "0 * 7", zero.Product(seven), new(big.Int))
	check(t, "7 * 0", seven.Product(zero), new(big.Int))
	check(t, "0 times 7", zero.Times(7), new(big.Int))
	check(t, "7 times 0", seven.Times(0), new(big.Int))
	if zero.Compare(seven) != -1 || seven.Compare(zero) != 1 {
		t.Error("0 isn't less than 7")
	}
	if q, rest := zero.Divide(7); !q.Zero() || rest != 0 {
		t.Errorf("0 by 7: %s, %d", q, rest)
	}
}

// P1.1
func TestIntAndUint64(t *testing.T) {
	for _, n := range []uint64{0, 1, 9, math.MaxUint32 - 1, math.MaxUint32, 1 << 32, 1<<32 + 1, 1 << 63, math.MaxUint64 - 1, math.MaxUint64} {
		check(t, "Int", nat.Int(n), new(big.Int).SetUint64(n))
		if back, ok := nat.Int(n).Uint64(); back != n || !ok {
			t.Errorf("Uint64 of %d: %d, %v", n, back, ok)
		}
	}
	for _, l := range samples() {
		want := toBig(l)
		n, ok := nat.Of(l...).Uint64()
		if ok != want.IsUint64() || ok && n != want.Uint64() || !ok && n != 0 {
			t.Errorf("Uint64 of %s: %d, %v", want, n, ok)
		}
	}
	over := nat.Int(math.MaxUint64).Add(nat.Int(1))
	if n, ok := over.Uint64(); n != 0 || ok {
		t.Errorf("Uint64 of 2^64: %d, %v", n, ok)
	}
}

// P1.1
func TestAdd(t *testing.T) {
	for _, x := range samples() {
		check(t, "Add of none", nat.Of(x...).Add(), toBig(x))
		for _, y := range samples() {
			want := new(big.Int).Add(toBig(x), toBig(y))
			check(t, "Add", nat.Of(x...).Add(nat.Of(y...)), want)
		}
	}
}

// P1.1
func TestAddOfMany(t *testing.T) {
	list := samples()
	for from := range list {
		var more []nat.Nat
		want := toBig(list[from])
		for _, l := range list[from:] {
			more = append(more, nat.Of(l...))
			want.Add(want, toBig(l))
			check(t, "Add of many", nat.Of(list[from]...).Add(more...), want)
		}
	}
	ones := slices.Repeat([]nat.Nat{nat.Int(math.MaxUint64)}, 1000)
	want := new(big.Int).Mul(new(big.Int).SetUint64(math.MaxUint64), big.NewInt(1001))
	check(t, "a carry each time", ones[0].Add(ones...), want)
}

// P1.1
func TestSub(t *testing.T) {
	for _, x := range samples() {
		for _, y := range samples() {
			want := new(big.Int).Sub(toBig(x), toBig(y))
			got, ok := nat.Of(x...).Sub(nat.Of(y...))
			if ok != (want.Sign() >= 0) {
				t.Fatalf("%v less %v: %v", x, y, ok)
			}
			if !ok {
				want.SetInt64(0)
			}
			check(t, "Sub", got, want)
		}
	}
	if n, ok := nat.Int(1 << 32).Sub(nat.Of(1, 1)); ok || !n.Zero() {
		t.Errorf("2^32 less one more than it: %s, %v", n, ok)
	}
}

// P1.1
func TestTimes(t *testing.T) {
	for _, x := range samples() {
		for _, n := range []uint32{0, 1, 2, 3, 10, 1000000000, 1 << 31, math.MaxUint32 - 1, math.MaxUint32} {
			want := new(big.Int).Mul(toBig(x), big.NewInt(int64(n)))
			check(t, "Times", nat.Of(x...).Times(n), want)
		}
	}
	if n, ok := nat.Of(0, 1).Times(10).Sub(nat.Int(1)); n.String() != "42949672959" || !ok {
		t.Errorf("2^32 times 10, less 1: %s", n)
	}
}

// P1.1
func TestProduct(t *testing.T) {
	for _, x := range samples() {
		check(t, "Product of none", nat.Of(x...).Product(), toBig(x))
		for _, y := range samples() {
			want := new(big.Int).Mul(toBig(x), toBig(y))
			check(t, "Product", nat.Of(x...).Product(nat.Of(y...)), want)
		}
	}
}

// P1.1
func TestProductOfMany(t *testing.T) {
	var more []nat.Nat
	want := big.NewInt(7)
	for _, l := range samples()[1:] {
		more = append(more, nat.Of(l...))
		want.Mul(want, toBig(l))
		check(t, "Product of many", nat.Int(7).Product(more...), want)
	}
	for i := range more {
		with := slices.Clone(more)
		with[i] = nat.Nat{}
		check(t, "Product with a 0", nat.Int(7).Product(with...), new(big.Int))
	}
}

// P1.1
func TestDivide(t *testing.T) {
	for _, x := range samples() {
		for _, n := range []uint32{1, 2, 3, 10, 1000000000, 1 << 31, math.MaxUint32 - 1, math.MaxUint32} {
			want, wantRest := new(big.Int).DivMod(toBig(x), big.NewInt(int64(n)), new(big.Int))
			got, rest := nat.Of(x...).Divide(n)
			check(t, "Divide", got, want)
			if uint64(rest) != wantRest.Uint64() {
				t.Fatalf("rest of %v by %d: %d", x, n, rest)
			}
		}
		if got, rest := nat.Of(x...).Divide(0); !got.Zero() || rest != 0 {
			t.Fatalf("%v by 0: %s, %d", x, got, rest)
		}
	}
}

// P1.1
func TestCompare(t *testing.T) {
	for _, x := range samples() {
		for _, y := range samples() {
			if got, want := nat.Of(x...).Compare(nat.Of(y...)), toBig(x).Cmp(toBig(y)); got != want {
				t.Errorf("%v against %v: %d, want %d", x, y, got, want)
			}
		}
	}
}

// P1.1
func TestNatNeverChanges(t *testing.T) {
	for _, l := range samples() {
		given := append(make([]uint32, 0, len(l)+3), l...)
		n := nat.Of(given...)
		want := toBig(l)
		for i := range given {
			given[i] = 77
		}
		check(t, "what was handed in is written to", n, want)
		told := n.Limbs()
		for i := range told {
			told[i] = 77
		}
		_ = append(told, 1, 2, 3)
		check(t, "what was told is written to", n, want)

		other := nat.Of(5, 6, 7, 8)
		sum, product := n.Add(), n.Product()
		n.Add(other, other)
		n.Sub(other)
		other.Sub(n)
		n.Times(3)
		n.Product(other, n)
		n.Divide(3)
		_ = n.String()
		check(t, "it was reckoned with", n, want)
		check(t, "its sum stays", sum, want)
		check(t, "its product stays", product, want)
		check(t, "the other one was reckoned with", other, toBig([]uint32{5, 6, 7, 8}))
	}
}

// P1.1: what is handed in isn't changed, its spare room neither.
func TestArgumentsStay(t *testing.T) {
	limbs := []uint32{1, 2, 0, 9, 9}
	nat.Of(limbs[:3]...)
	if !slices.Equal(limbs, []uint32{1, 2, 0, 9, 9}) {
		t.Errorf("Of wrote to its limbs: %v", limbs)
	}
	list := []nat.Nat{nat.Int(1), nat.Of(math.MaxUint32, math.MaxUint32), nat.Int(3), nat.Int(4)}
	want := slices.Clone(list)
	nat.Int(5).Add(list[:2]...)
	nat.Int(5).Product(list[:2]...)
	for i := range list {
		if list[i].Compare(want[i]) != 0 || !reflect.DeepEqual(list[i], want[i]) {
			t.Errorf("the list was written to at %d: %s", i, list[i])
		}
	}
}
