package copy_test

import (
	"slices"
	"testing"

	"troupe/api"
	"troupe/copy"
	"troupe/heap"
)

// P7.3

// A heap whose lists of free blocks were looked at would tell it by the blocks that it takes next.
func TestFromIsNotTurned(t *testing.T) {
	k, l := fresh(t), fresh(t)
	var w, bin uint64
	for _, h := range []*heap.Heap{k.from, l.from} {
		a, b := lay(t, h, "{1}"), lay(t, h, "{2,3,4,5}")
		w, bin = lay(t, h, "{[a,b],{<<1,2>>}}"), lay(t, h, "<<3>>")
		c := lay(t, h, "[6]")
		h.Hold(w)
		for _, gone := range []uint64{b, c, a} {
			frees(t, h, gone)
		}
	}
	tight := newHeap(t, 8, 8, k.atoms, k.bins)
	for _, to := range []*heap.Heap{k.to, tight} {
		for _, word := range []uint64{w, bin, block(999), w, small(1)} {
			copy.Copy(to, k.from, word)
			copy.Many(to, k.from, bin, word, w)
			copy.Size(k.from, word)
		}
	}
	content(l.from).is(t, k.from)
	if k.from.Top() != l.from.Top() {
		t.Fatalf("top %d, not %d", k.from.Top(), l.from.Top())
	}
	for _, n := range []int{1, 1, 3, 4, 2, 0, 7, 1} {
		got, err := k.from.Alloc(n)
		want, wrong := l.from.Alloc(n)
		if got != want || err != nil || wrong != nil {
			t.Fatalf("Alloc(%d): %d, not %d", n, got, want)
		}
	}
}

// What becomes of a copy says nothing of what was copied, nor the other way round.
func TestACopyStandsAlone(t *testing.T) {
	k := fresh(t)
	w := lay(t, k.from, "{1,[2]}")
	got := k.copies(t, w)
	sets(t, k.from, nameOf(w), 1, small(8))
	says(t, k.to, got, "{1,[2]}")
	sets(t, k.to, nameOf(got), 1, small(9))
	says(t, k.from, w, "{8,[2]}")
	if n := k.to.Collect(); n != 2 { // a copy is not held by itself
		t.Errorf("%d given back", n)
	}
	says(t, k.from, w, "{8,[2]}")
	if len(k.to.Held()) != 0 || len(k.from.Held()) != 0 {
		t.Errorf("held: %v, %v", k.to.Held(), k.from.Held())
	}
}

func TestThereAndBack(t *testing.T) {
	k := fresh(t)
	const text = "{[a,<<1,2>>],{b,<<1,2>>},1152921504606846976}"
	w := lay(t, k.from, text) // two handles
	there := k.copies(t, w)
	back, err := copy.Copy(k.from, k.to, there)
	if err != nil || back == w {
		t.Fatalf("%d, %v", back, err)
	}
	says(t, k.from, back, text)
	k.hasCount(t, 0, 3)
	k.hasCount(t, 1, 3)
	k.from.Collect(back)
	k.to.Drop()
	k.hasCount(t, 0, 1)
	k.hasCount(t, 1, 1)
	says(t, k.from, back, text)
	k.from.Drop()
	k.hasHandles(t)
	if k.atoms.Len() != 2 {
		t.Errorf("%d atoms", k.atoms.Len())
	}
}

func TestAHeapIntoItself(t *testing.T) {
	k := fresh(t)
	h := k.from
	const text = "{<<1,2>>,[{},c]}"
	w := lay(t, h, text)
	before := h.Blocks()
	got, err := copy.Copy(h, h, w)
	if err != nil || got == w || len(h.Blocks()) != 2*len(before) {
		t.Fatalf("%d, %v, blocks %v", got, err, h.Blocks())
	}
	says(t, h, w, text)
	says(t, h, got, text)
	k.hasCount(t, 0, 2)
	h.Collect(got)
	says(t, h, got, text)
	k.hasCount(t, 0, 1)
	for _, p := range before {
		if _, err := h.Len(p); err == nil {
			t.Errorf("block %d is reached from the copy", p)
		}
	}
}

// A word that names nothing when the go begins names nothing in it, though the copy takes such a block.
func TestAHeapIntoItselfWithANameOfNothing(t *testing.T) {
	k := fresh(t)
	h := k.from
	w := raw(t, h, mark(tupleMark, 2), block(5), block(9)) // block 1
	got, err := copy.Many(h, h, w, w)
	if err != nil || !slices.Equal(got, []uint64{block(5), block(5)}) {
		t.Fatalf("%v, %v", got, err)
	}
	hasBlocks(t, h, 1, 5)
	isBlock(t, h, 5, mark(tupleMark, 2), block(5), block(9))
}

func TestAHeapIntoItselfWithoutRoom(t *testing.T) {
	k := sized(t, 16, 15)
	k.from = k.to
	w := lay(t, k.to, "<<1,2>>")
	k.refuses(t, []uint64{w}, api.ErrFull, link{"alloc", 4})
	k.hasCount(t, 0, 1)
	says(t, k.to, w, "<<1,2>>")
}

// R4: two heaps have nothing in common but what was handed to both, and two goes nothing at all.
func TestGoesBetweenOtherHeaps(t *testing.T) {
	k, l := fresh(t), fresh(t)
	w, v := lay(t, k.from, "{x,<<1>>}"), lay(t, l.from, "{y,<<2>>}")
	third := newHeap(t, 64, 64, k.atoms, k.bins)
	got := k.copies(t, w)
	other, err := copy.Copy(third, k.to, got) // a copy of a copy
	if err != nil {
		t.Fatal(err)
	}
	says(t, l.to, l.copies(t, v), "{y,<<2>>}")
	says(t, k.to, got, "{x,<<1>>}")
	says(t, third, other, "{x,<<1>>}")
	k.hasCount(t, 0, 3)
	l.hasCount(t, 0, 2)
	k.from.Drop()
	k.to.Drop()
	k.hasCount(t, 0, 1)
	says(t, third, other, "{x,<<1>>}")
}

// Atoms are numbers of a table: a copy takes no new one, also where no more would be taken.
func TestAtomsAreShared(t *testing.T) {
	k := fresh(t)
	w := lay(t, k.from, "[a,{b,a}]")
	for i := 0; k.atoms.Len() < api.MaxAtoms; i++ {
		if _, err := k.atoms.Number(string(rune('a'+i%26)) + string(rune(200+i))); err != nil {
			t.Fatal(err)
		}
	}
	says(t, k.to, k.copies(t, w), "[a,{b,a}]")
	if k.atoms.Len() != api.MaxAtoms {
		t.Errorf("%d atoms", k.atoms.Len())
	}
}
