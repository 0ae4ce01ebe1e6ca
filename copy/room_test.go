package copy_test

import (
	"testing"

	"troupe/api"
	"troupe/copy"
)

// P7.1 and P7.2: no room

// mixed is a term whose blocks want 8, 8, 4, 4 and 16 places, in the order in which they are laid, for so many words.
const mixed = "{<<1,2>>,[3],1152921504606846976,{1,2,3,4,5,6,7}}"

// refusedAt is for how many words a block of mixed has no room, where there are so many places.
func refusedAt(places int) int {
	for _, b := range []struct{ words, sum int }{{5, 8}, {4, 16}, {3, 20}, {2, 24}} {
		if places < b.sum {
			return b.words
		}
	}
	return 8
}

func TestNoRoomAtEachBlock(t *testing.T) {
	const all = 40
	for room := 2; room <= all; room++ {
		for _, size := range []int{room, 64} { // too small, or of too small a quota
			k := sized(t, size, room)
			w := lay(t, k.from, mixed)
			k.hasCount(t, 0, 1)
			if room < all {
				k.refuses(t, []uint64{w}, api.ErrFull, link{"alloc", refusedAt(room)})
				hasBlocks(t, k.to)
				continue
			}
			says(t, k.to, k.copies(t, w), mixed)
			k.hasCount(t, 0, 2)
		}
	}
}

func TestNoRoomBesideWhatIsThere(t *testing.T) {
	const all = 40
	for room := range all + 1 {
		k := sized(t, 28+room, 28+room)
		there := lay(t, k.to, "{[1],<<7>>,{}}") // 4, 8, 2 and 8 places
		k.to.Hold(there)
		raw(t, k.to, 1, 2, 3)
		frees(t, k.to, raw(t, k.to, 9))
		w := lay(t, k.from, mixed)
		k.hasCount(t, 0, 1)
		k.hasCount(t, 1, 1)
		if k.to.Used() != 26 {
			t.Fatalf("%d used", k.to.Used())
		}
		_, err := copy.Copy(k.to, k.from, w)
		if room == all { // (2 places more are free: no block of it is so small)
			if err != nil {
				t.Fatal(err)
			}
			k.hasCount(t, 1, 2)
		} else {
			k.refuses(t, []uint64{w}, api.ErrFull, link{"alloc", refusedAt(room)})
			k.hasCount(t, 1, 1)
		}
		says(t, k.to, there, "{[1],<<7>>,{}}")
		k.hasCount(t, 0, 1)
	}
}

func TestTheTextOfNoRoom(t *testing.T) {
	k := sized(t, 2, 1)
	_, err := copy.Copy(k.to, k.from, lay(t, k.from, "{}"))
	if err == nil || err.Error() != "copy: alloc: full" {
		t.Error(err)
	}
	_, err = copy.Many(k.to, k.from, small(1), lay(t, k.from, "{}"))
	if err == nil || err.Error() != "copy: alloc: full" {
		t.Error(err)
	}
}

// What was laid is free again behind a refusal, and so is what was freed before it.
func TestRoomBehindARefusal(t *testing.T) {
	k := sized(t, 16, 16)
	w, ok := lay(t, k.from, "{{1},{2},{3},{4},{5}}"), lay(t, k.from, "{{1},<<>>}")
	for range 5 {
		k.refuses(t, []uint64{w}, api.ErrFull, link{"alloc", 2})
	}
	k.to.Clear() // in one piece
	for range 5 {
		got := k.copies(t, ok)
		says(t, k.to, got, "{{1},<<>>}")
		k.hasCount(t, 0, 2)
		k.refuses(t, []uint64{ok}, api.ErrFull, link{"alloc", 3})
		k.to.Collect()
		k.hasCount(t, 0, 1)
	}
}

// Binaries have no room to want: they are shared.
func TestBinariesWantNoBytes(t *testing.T) {
	k := fresh(t)
	x := api.Term{Kind: api.Bin, Bytes: make([]byte, api.MaxTerms-1)}
	var last uint64
	for range api.MaxWords / api.MaxTerms {
		w, err := k.from.Store(x)
		if err != nil {
			t.Fatal(err)
		}
		last = w
	}
	free := api.MaxWords - k.bins.Used()
	if free > len(x.Bytes) {
		t.Fatalf("%d bytes are free", free)
	}
	for len(k.bins.Handles()) < api.MaxHandles { // nor is there a handle for another one
		k.puts(t, "")
	}
	k.copies(t, last)
	k.hasCount(t, nameOf(wordsOf(k.from, nameOf(last))[1]), 2)
}
