package heap_test

import (
	"cmp"
	"math"
	"math/rand"
	"reflect"
	"runtime"
	"slices"
	"testing"
	"weak"

	"ligature/heap"
)

type entry struct {
	rank, place, thing int
}

// inOrder is what a heap must tell of entries that were pushed in this order.
func inOrder(pushed []entry) []entry {
	return slices.SortedStableFunc(slices.Values(pushed), func(a, b entry) int {
		return cmp.Or(cmp.Compare(a.rank, b.rank), cmp.Compare(a.place, b.place))
	})
}

func filled(l []entry) *heap.Heap[int] {
	h := heap.New[int]()
	for _, x := range l {
		h.Push(x.rank, x.place, x.thing)
	}
	return h
}

func randomEntries(r *rand.Rand, n, spread int) []entry {
	l := make([]entry, n)
	for i := range l {
		l[i] = entry{r.Intn(spread) - spread/2, r.Intn(spread) - spread/2, i}
	}
	return l
}

func mustPop(t *testing.T, h *heap.Heap[int], want entry) {
	t.Helper()
	for _, tell := range []func() (int, int, int, bool){h.Peek, h.Peek, h.Pop} {
		if thing, rank, place, ok := tell(); !ok || (entry{rank, place, thing}) != want {
			t.Fatalf("%d of rank %d at %d, %v: want %v", thing, rank, place, ok, want)
		}
	}
}

func mustBeEmpty(t *testing.T, h *heap.Heap[int]) {
	t.Helper()
	for _, tell := range []func() (int, int, int, bool){h.Peek, h.Pop} {
		if thing, rank, place, ok := tell(); thing != 0 || rank != 0 || place != 0 || ok {
			t.Errorf("of nothing: %d, %d, %d, %v", thing, rank, place, ok)
		}
	}
	if n, l := h.Len(), h.Drain(); n != 0 || len(l) != 0 {
		t.Errorf("of nothing: %d, %v", n, l)
	}
}

// P3.1: the chapter's example.
func TestExample(t *testing.T) {
	h := heap.New[string]()
	h.Push(5, 1, "x")
	h.Push(3, 9, "y")
	h.Push(3, 2, "z")
	for _, want := range []string{"z", "y", "x"} {
		if got, _, _, ok := h.Pop(); got != want || !ok {
			t.Errorf("%q, %v: want %q", got, ok, want)
		}
	}
}

// P3.1: the least rank, then the least place, then what was pushed first.
func TestPopInOrder(t *testing.T) {
	r := rand.New(rand.NewSource(1))
	for n := range 70 {
		for _, spread := range []int{1, 2, 3, 10, 1000} {
			l := randomEntries(r, n, spread)
			h := filled(l)
			for i, want := range inOrder(l) {
				if h.Len() != n-i {
					t.Fatalf("%d are %d", n-i, h.Len())
				}
				mustPop(t, h, want)
			}
			mustBeEmpty(t, h)
		}
	}
}

// P3.1: ranks and places are any numbers.
func TestGreatNumbers(t *testing.T) {
	numbers := []int{0, math.MaxInt, math.MinInt, -1, 1, math.MinInt + 1, math.MaxInt - 1}
	var l []entry
	for i, rank := range numbers {
		for j, place := range numbers {
			l = append(l, entry{rank, place, i*10 + j})
		}
	}
	h := filled(l)
	for _, want := range inOrder(l) {
		mustPop(t, h, want)
	}
}

// P3.1: what was pushed first comes first, also where others were taken between.
func TestTurnsAmongPops(t *testing.T) {
	r := rand.New(rand.NewSource(2))
	for range 200 {
		h := heap.New[int]()
		var held []entry
		for i := range 120 {
			if r.Intn(5) < 3 {
				x := entry{r.Intn(3), r.Intn(2), i}
				h.Push(x.rank, x.place, x.thing)
				held = append(held, x)
			} else if len(held) > 0 {
				held = inOrder(held)
				mustPop(t, h, held[0])
				held = held[1:]
			} else {
				mustBeEmpty(t, h)
			}
			if h.Len() != len(held) {
				t.Fatalf("%d are %d", len(held), h.Len())
			}
		}
	}
}

// P3.1
func TestDrain(t *testing.T) {
	r := rand.New(rand.NewSource(3))
	for n := range 40 {
		l := randomEntries(r, n, 4)
		var want []int
		for _, x := range inOrder(l) {
			want = append(want, x.thing)
		}
		h := filled(l)
		got := h.Drain()
		if !slices.Equal(got, want) {
			t.Fatalf("%v: want %v", got, want)
		}
		mustBeEmpty(t, h)
		h.Push(1, 1, -7)
		h.Push(0, 2, -8)
		if !slices.Equal(got, want) {
			t.Fatalf("what was told has changed: %v", got)
		}
		if again := h.Drain(); !slices.Equal(again, []int{-8, -7}) {
			t.Fatalf("pushed later: %v", again)
		}
	}
}

// P3.1
func TestClear(t *testing.T) {
	h := heap.New[int]()
	h.Clear()
	mustBeEmpty(t, h)
	for n := range 20 {
		for i := range n {
			h.Push(-i, i, i)
		}
		h.Clear()
		mustBeEmpty(t, h)
		h.Push(2, 3, 4)
		mustPop(t, h, entry{2, 3, 4})
	}
}

// P3.1: two heaps have nothing to do with each other.
func TestTwoHeaps(t *testing.T) {
	a, b := heap.New[int](), heap.New[int]()
	a.Push(1, 1, 1)
	mustBeEmpty(t, b)
	b.Push(2, 2, 2)
	mustPop(t, a, entry{1, 1, 1})
	mustPop(t, b, entry{2, 2, 2})
}

// P3.1: of a nil heap, and of one that no maker answered.
func TestNoHeap(t *testing.T) {
	var none *heap.Heap[int]
	mustBeEmpty(t, none)
	none.Push(1, 2, 3)
	none.Clear()
	mustBeEmpty(t, none)
	var raw heap.Heap[int]
	mustBeEmpty(t, &raw)
	raw.Clear()
	raw.Push(1, 2, 3)
	raw.Pop()
}

// P3.1: things are of any type, also of one that can't be held against others.
func TestAnyType(t *testing.T) {
	lists := heap.New[[]int]()
	lists.Push(2, 0, []int{1})
	lists.Push(1, 0, nil)
	lists.Push(1, 0, []int{2, 3})
	if got := lists.Drain(); !reflect.DeepEqual(got, [][]int{nil, {2, 3}, {1}}) {
		t.Errorf("%v", got)
	}
	calls := heap.New[func() int]()
	if f, _, _, ok := calls.Pop(); f != nil || ok {
		t.Error("a function of nothing")
	}
	calls.Push(0, 0, func() int { return 7 })
	if f, _, _, ok := calls.Pop(); !ok || f() != 7 {
		t.Error("a function is lost")
	}
	errs := heap.New[error]()
	errs.Push(0, 0, nil)
	if e, _, _, ok := errs.Peek(); e != nil || !ok || errs.Len() != 1 {
		t.Error("nil is a thing too")
	}
	nothings := heap.New[struct{}]()
	nothings.Push(3, 4, struct{}{})
	if _, rank, place, ok := nothings.Pop(); rank != 3 || place != 4 || !ok {
		t.Errorf("%d, %d, %v", rank, place, ok)
	}
}

// P3.1 (it is in it no more): nothing that was taken is held on to.
func TestTakenThingsAreLetGo(t *testing.T) {
	ways := map[string]func(h *heap.Heap[*[64]int]){
		"Pop":   func(h *heap.Heap[*[64]int]) { h.Pop(); h.Pop(); h.Pop() },
		"Clear": func(h *heap.Heap[*[64]int]) { h.Clear() },
		"Drain": func(h *heap.Heap[*[64]int]) { h.Drain() },
	}
	for name, empty := range ways {
		h := heap.New[*[64]int]()
		var seen []weak.Pointer[[64]int]
		for i := range 3 {
			x := new([64]int)
			seen = append(seen, weak.Make(x))
			h.Push(i, 0, x)
		}
		empty(h)
		runtime.GC()
		for i, x := range seen {
			if x.Value() != nil {
				t.Errorf("%s holds on to the thing %d", name, i)
			}
		}
		runtime.KeepAlive(h)
	}
}
