package heap_test

import (
	"math"
	"math/rand"
	"slices"
	"testing"

	"troupe/api"
	"troupe/heap"
	"troupe/word"
)

// P6.1

func TestHeapsThatMayBe(t *testing.T) {
	for _, size := range []int{2, 3, 1000, api.MaxWords - 1, api.MaxWords} {
		for _, quota := range []int{1, 2, size - 1, size} {
			k := sized(t, size, quota, word.NewAtoms(), bins(t, 1, 0))
			if k.atoms.Len() != 0 || len(k.bins.Handles()) != 0 {
				t.Errorf("%d, %d: atoms or binaries are turned", size, quota)
			}
		}
	}
}

func TestHeapsThatMayNotBe(t *testing.T) {
	cases := []struct{ size, quota, n int }{
		{1, 1, 1}, {0, 0, 0}, {-1, 1, -1}, {math.MinInt, 1, math.MinInt},
		{api.MaxWords + 1, 1, api.MaxWords + 1}, {math.MaxInt, 1, math.MaxInt},
		{2, 0, 0}, {2, -1, -1}, {2, 3, 3}, {100, 101, 101}, {api.MaxWords, api.MaxWords + 1, api.MaxWords + 1},
		{100, math.MinInt, math.MinInt}, {100, math.MaxInt, math.MaxInt},
		{1, 0, 1}, {-5, -7, -5}, {api.MaxWords + 1, api.MaxWords + 2, api.MaxWords + 1}, // a wrong size counts first
	}
	for _, c := range cases {
		h, err := heap.New(c.size, c.quota, word.NewAtoms(), bins(t, 1, 0))
		if h != nil {
			t.Errorf("New(%d, %d): a heap", c.size, c.quota)
		}
		refused(t, err, api.ErrArg, link{"heap", 0}, link{"arena", c.n})
	}
	_, err := heap.New(2, 3, word.NewAtoms(), bins(t, 1, 0))
	if err == nil || err.Error() != "heap: arena: argument" {
		t.Errorf("%v", err)
	}
}

func TestAHeapEmbedsItsArena(t *testing.T) {
	k := sized(t, 16, 12, word.NewAtoms(), bins(t, 1, 0))
	p := k.raw(t, 7, 8, 9)
	if p != 1 || k.Arena.Used() != 4 || k.Arena.Top() != 4 || !slices.Equal(k.Arena.Blocks(), []int{1}) {
		t.Fatalf("block %d: %d used, top %d", p, k.Arena.Used(), k.Arena.Top())
	}
	w := k.text(t, "{a}")
	if w != block(5) || k.Arena.Used() != 8 {
		t.Fatalf("%d: %d used", w, k.Arena.Used())
	}
	if n, err := k.Arena.Len(5); n != 2 || err != nil {
		t.Fatalf("%d, %v", n, err)
	}
	_, err := k.Alloc(7) // 8 places more than 8 are above the quota
	refused(t, err, api.ErrFull, link{"alloc", 7})
	_, err = k.Get(1, 3)
	refused(t, err, api.ErrIndex, link{"get", 1}, link{"index", 3})
	if err := k.Free(1); err != nil || k.Used() != 4 {
		t.Fatalf("%d used, %v", k.Used(), err)
	}
	k.Clear()
	k.isEmpty(t)
}

// P6.5

func TestSlots(t *testing.T) {
	k := fresh(t)
	k.holds(t, small(7), 0)
	k.holds(t, block(99), 1) // it may name nothing
	k.holds(t, small(7), 2)  // the same word twice: two slots
	k.holds(t, 0, 3)
	k.hasHeld(t, small(7), block(99), small(7), 0)
	if err := k.Swap(1, math.MaxUint64); err != nil {
		t.Fatal(err)
	}
	k.hasHeld(t, small(7), math.MaxUint64, small(7), 0)
	for _, slot := range []int{2, 0} {
		if err := k.Let(slot); err != nil {
			t.Fatal(err)
		}
	}
	k.hasHeld(t, math.MaxUint64, 0)
	k.holds(t, 100, 0) // the least that is free
	k.holds(t, 102, 2)
	k.holds(t, 104, 4)
	k.hasHeld(t, 100, math.MaxUint64, 102, 0, 104)
}

func TestTheLeastSlotThatIsFree(t *testing.T) {
	k := fresh(t)
	for i := range 10 {
		k.holds(t, uint64(i), i)
	}
	for _, slot := range []int{7, 3, 9, 5} {
		if err := k.Let(slot); err != nil {
			t.Fatal(err)
		}
	}
	for _, want := range []int{3, 5, 7, 9, 10} {
		k.holds(t, 50, want)
	}
	if err := k.Let(0); err != nil {
		t.Fatal(err)
	}
	if err := k.Let(10); err != nil {
		t.Fatal(err)
	}
	k.holds(t, 1, 0)
	k.holds(t, 1, 10)
	k.holds(t, 1, 11)
}

func TestSlotsThatHoldNone(t *testing.T) {
	k := fresh(t)
	wrong := func(slots ...int) {
		t.Helper()
		for _, slot := range slots {
			before := k.state()
			refused(t, k.Swap(slot, 5), api.ErrNone, link{"slot", slot})
			refused(t, k.Let(slot), api.ErrNone, link{"slot", slot})
			k.isAs(t, before)
		}
	}
	wrong(-1, 0, 1, math.MinInt, math.MaxInt)
	k.holds(t, 8, 0)
	k.holds(t, 16, 1)
	wrong(-1, 2, 3, math.MinInt, math.MaxInt)
	if err := k.Let(0); err != nil {
		t.Fatal(err)
	}
	wrong(0, -1, 2) // it was let go
	k.holds(t, 24, 0)
	k.hasHeld(t, 24, 16)
	if err := k.Swap(0, 32); err != nil {
		t.Fatal(err)
	}
	k.hasHeld(t, 32, 16)
	for _, slot := range []int{1, 0} {
		if err := k.Let(slot); err != nil {
			t.Fatal(err)
		}
	}
	wrong(0, 1)
	k.hasHeld(t)
}

func TestHeldIsNewMemory(t *testing.T) {
	k := fresh(t)
	for i := range 3 {
		k.holds(t, uint64(i), i)
	}
	one, two := k.Held(), k.Held()
	for i := range one[:cap(one)] { // spare room too
		one[:cap(one)][i] = 77
	}
	if !slices.Equal(two, []uint64{0, 1, 2}) {
		t.Errorf("%v", two)
	}
	k.hasHeld(t, 0, 1, 2)
	k.holds(t, 3, 3)
	k.hasHeld(t, 0, 1, 2, 3)
}

func TestManySlots(t *testing.T) {
	k := fresh(t)
	held := map[int]uint64{}
	r := rand.New(rand.NewSource(5))
	for i := range 3000 {
		slot := r.Intn(40)
		w := uint64(i)
		if _, ok := held[slot]; ok && r.Intn(2) == 0 {
			if err := k.Let(slot); err != nil {
				t.Fatal(err)
			}
			delete(held, slot)
		} else if ok {
			if err := k.Swap(slot, w); err != nil {
				t.Fatal(err)
			}
			held[slot] = w
		} else {
			want := 0
			for _, ok := held[want]; ok; _, ok = held[want] {
				want++
			}
			k.holds(t, w, want)
			held[want] = w
		}
		var words []uint64
		for slot := range 3001 {
			if w, ok := held[slot]; ok {
				words = append(words, w)
			}
		}
		k.hasHeld(t, words...)
	}
}

// What copies blocks between heaps keeps their handles by this.
func TestBinariesAreThoseThatWereHandedIn(t *testing.T) {
	b, a := bins(t, 4, 20), word.NewAtoms()
	one, two, other := sized(t, 64, 64, a, b), sized(t, 64, 64, a, b), fresh(t)
	one.stores(t, bin("abc"))
	if one.Binaries() != b || two.Binaries() != b || other.Binaries() == b {
		t.Error("other binaries")
	}
	one.Drop()
	if one.Binaries() != b {
		t.Error("they are gone behind Drop")
	}
}
