package copy_test

import (
	"slices"
	"testing"

	"troupe/api"
	"troupe/copy"
)

// P7.2

func TestManyOfNoWords(t *testing.T) {
	k := sized(t, 2, 1)
	lay(t, k.from, "{1,<<2>>}")
	k.many(t)
	k.many(t, []uint64{}...)
	hasBlocks(t, k.to)
	k.hasCount(t, 0, 1)
}

func TestManyIsInOrder(t *testing.T) {
	k := fresh(t)
	got := k.many(t, lay(t, k.from, "[1,2]"), small(3), lay(t, k.from, "{{4},{5}}"), nilWord, lay(t, k.from, "<<6>>"))
	if want := []uint64{block(1), small(3), block(5), nilWord, block(9)}; !slices.Equal(got, want) {
		t.Fatalf("%v, not %v", got, want)
	}
	hasBlocks(t, k.to, 1, 5, 9, 17, 21, 25)
	isBlock(t, k.to, 1, mark(pairMark, 2), small(1), block(17)) // words come ahead of what hangs from them
	isBlock(t, k.to, 5, mark(tupleMark, 2), block(21), block(25))
	isBlock(t, k.to, 9, mark(binaryMark, 1), handleWord(0), 0, 1)
	isBlock(t, k.to, 17, mark(pairMark, 2), small(2), nilWord)
	isBlock(t, k.to, 21, mark(tupleMark, 1), small(4))
	isBlock(t, k.to, 25, mark(tupleMark, 1), small(5))
}

func TestManyOfRepeatedWords(t *testing.T) {
	k := fresh(t)
	w, v := lay(t, k.from, "{<<1>>}"), lay(t, k.from, "[2]")
	got := k.many(t, w, v, w, w, small(3), v, small(3))
	a, b := block(1), block(5)
	if want := []uint64{a, b, a, a, small(3), b, small(3)}; !slices.Equal(got, want) {
		t.Fatalf("%v, not %v", got, want)
	}
	hasBlocks(t, k.to, 1, 5, 9)
	k.hasCount(t, 0, 2)
	says(t, k.to, a, "{<<1>>}")
	says(t, k.to, b, "[2]")
}

func TestManyOfWordsThatShare(t *testing.T) {
	k := fresh(t)
	shared := lay(t, k.from, "[<<1>>]")
	one := raw(t, k.from, mark(tupleMark, 1), shared)
	two := raw(t, k.from, mark(pairMark, 2), one, shared)
	got := k.many(t, two, shared, one)
	says(t, k.to, got[0], "[{[<<1>>]},<<1>>]")
	says(t, k.to, got[1], "[<<1>>]")
	says(t, k.to, got[2], "{[<<1>>]}")
	hasBlocks(t, k.to, 1, 5, 9, 13)
	isBlock(t, k.to, 1, mark(pairMark, 2), got[2], got[1])
	isBlock(t, k.to, nameOf(got[2]), mark(tupleMark, 1), got[1])
	k.hasCount(t, 0, 2)
	again := k.many(t, one, shared) // once more in a second go
	if again[0] == got[2] || again[1] == got[1] || wordsOf(k.to, nameOf(again[0]))[1] != again[1] {
		t.Errorf("%v behind %v", again, got)
	}
	hasBlocks(t, k.to, 1, 5, 9, 13, 21, 25, 29)
	k.hasCount(t, 0, 3)
}

// Two goes of one word each share nothing; one go of two words does.
func TestManyIsNoCopyOfEach(t *testing.T) {
	k, l := fresh(t), fresh(t)
	for _, x := range []kit{k, l} {
		lay(t, x.from, "{[1,2,3]}")
	}
	w := block(13)
	k.copies(t, w)
	k.copies(t, block(9))
	l.many(t, w, block(9))
	if len(k.to.Blocks()) != 7 || len(l.to.Blocks()) != 4 {
		t.Errorf("%v, %v", k.to.Blocks(), l.to.Blocks())
	}
}

func TestManyIsAllOrNothing(t *testing.T) {
	k := sized(t, 4096, 24) // how a refused go leaves the lists of free blocks then says nothing
	k.to.Hold(lay(t, k.to, "{1}"))
	bin, tup := lay(t, k.from, "<<1>>"), lay(t, k.from, "{1,2,3,4}") // 8 places each
	pair, more := lay(t, k.from, "[1]"), lay(t, k.from, "{}")
	gone := lay(t, k.from, "{gone}")
	frees(t, k.from, gone)
	none := []link{{"size", 0}, {"words", 0}}
	for _, ws := range [][]uint64{{gone}, {small(1), gone}, {gone, bin}, {bin, gone}, {bin, tup, small(1), gone, pair}, {bin, block(0), bin}} {
		k.refuses(t, ws, api.ErrNone, none...)
	}
	for _, ws := range [][]uint64{{bin, tup, pair, more, gone}, {more, pair, tup, bin, bin, block(2)}} { // that a word names nothing counts ahead of the room
		k.refuses(t, ws, api.ErrNone, none...)
	}
	for _, c := range []struct {
		ws    []uint64
		words int
	}{
		{[]uint64{bin, tup, pair, more}, 1},
		{[]uint64{bin, lay(t, k.from, "<<2>>"), tup}, 5},
		{[]uint64{small(1), lay(t, k.from, "{1,2,3,4,5,6,7,8,9}"), nilWord, bin, small(2), tup}, 4},
		{[]uint64{lay(t, k.from, "{{{{{{6}}}}}}")}, 2},
	} {
		k.refuses(t, c.ws, api.ErrFull, link{"alloc", c.words})
	}
	k.hasCount(t, 0, 1)
}

func TestManyWithJustTheRoom(t *testing.T) {
	k := sized(t, 20, 20)
	bin, tup, pair := lay(t, k.from, "<<1>>"), lay(t, k.from, "{1,2,3,4}"), lay(t, k.from, "[1]")
	got := k.many(t, bin, tup, pair, bin, tup, pair)
	if k.to.Used() != 20 || !slices.Equal(got[:3], got[3:]) {
		t.Errorf("%v: %d used", got, k.to.Used())
	}
	k.refuses(t, []uint64{small(1), pair}, api.ErrFull, link{"alloc", 3})
	k.many(t, small(1), nilWord)
}

// R3

func TestListsAreNeitherChangedNorKept(t *testing.T) {
	k := fresh(t)
	w := lay(t, k.from, "{[1]}")
	list := []uint64{w, small(1), w, 77, 78}
	ws := list[:3:5]
	got := k.many(t, ws...)
	if !slices.Equal(list, []uint64{w, small(1), w, 77, 78}) {
		t.Fatalf("%v", list)
	}
	for i := range got[:cap(got)] {
		got[:cap(got)][i] = 99
	}
	if !slices.Equal(list, []uint64{w, small(1), w, 77, 78}) {
		t.Fatalf("%v", list)
	}
	if again := k.many(t, ws...); again[1] != small(1) || again[0] != again[2] {
		t.Fatalf("%v", again)
	}
	stay := []uint64{small(1), small(2), 99}
	got = k.many(t, stay[:2]...) // words that stay are in a new list too
	got[0] = 5
	if stay[0] != small(1) {
		t.Errorf("%v", stay)
	}
}

func TestNothingIsAnsweredWithAnError(t *testing.T) {
	k := sized(t, 4, 4)
	for _, ws := range [][]uint64{{small(1), block(7)}, {lay(t, k.from, "{1}"), lay(t, k.from, "{2}")}} {
		if got, err := copy.Many(k.to, k.from, ws...); len(got) != 0 || err == nil {
			t.Errorf("%v, %v", got, err)
		}
	}
}
