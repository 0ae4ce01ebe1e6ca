package copy_test

import (
	"math"
	"slices"
	"testing"

	"troupe/api"
	"troupe/copy"
	"troupe/fault"
	"troupe/tree"
)

// The example of the chapter.
func TestExample(t *testing.T) {
	k := fresh(t)
	if w := k.copiesText(t, "{1,[2]}"); w != 13 {
		t.Fatalf("%d, not 13", w)
	}
	hasBlocks(t, k.to, 1, 5)
	isBlock(t, k.to, 1, mark(tupleMark, 2), small(1), block(5))
	isBlock(t, k.to, 5, mark(pairMark, 2), small(2), nilWord)
}

// texts are terms of all kinds.
func texts() []string {
	return []string{
		"7", "-1", "a", "'it\\'s'", "#p1", "#r2", "[]", "1152921504606846975",
		"1152921504606846976", "-9223372036854775808", "{}", "{{}}", "[[]]", "[1,2,3|4]", "<<>>", "<<1,2,3>>",
		"{1,[2]}", "[{a,b}|c]", "[1|{2,[3|<<4>>]}]", "{<<>>,<<9>>,[[1152921504606846976]],{1,2,3,4,5,6,7,8,9}}",
	}
}

// P7.1: Size

func TestSizeOfTerms(t *testing.T) {
	k := fresh(t)
	for _, text := range texts() {
		hasSize(t, k.from, lay(t, k.from, text), tree.Words(term(t, text)))
	}
}

func TestSizeOfWordsThatWantNone(t *testing.T) {
	k := fresh(t)
	lay(t, k.from, "{1}") // block 1
	from := content(k.from)
	for _, w := range wordsThatStay() {
		hasSize(t, k.from, w, 0)
	}
	from.is(t, k.from)
}

func TestSizeCountsSharedPartsOnce(t *testing.T) {
	k := fresh(t)
	shared := lay(t, k.from, "[<<1>>,{2}]") // two pairs, a binary, a tuple: 3 + 3 + 4 + 2
	hasSize(t, k.from, shared, 12)
	one := raw(t, k.from, mark(tupleMark, 3), shared, shared, shared)
	hasSize(t, k.from, one, 4+12)
	two := raw(t, k.from, mark(pairMark, 2), one, shared)
	hasSize(t, k.from, two, 3+4+12)
	sets(t, k.from, nameOf(one), 1, two) // and it goes round
	hasSize(t, k.from, two, 3+4+12)
	hasSize(t, k.from, one, 3+4+12)
	sets(t, k.from, nameOf(one), 2, block(9999)) // what names nothing within a block is passed over
	hasSize(t, k.from, two, 3+4+12)
}

func TestSizeOfBlocksThatAreNotThere(t *testing.T) {
	k := fresh(t)
	gone := lay(t, k.from, "{1}")
	lay(t, k.from, "{2}") // block 5
	lay(t, k.to, "{3}")   // that the other heap has such a block says nothing
	frees(t, k.from, gone)
	for _, w := range noBlocks(gone) {
		n, err := copy.Size(k.from, w)
		if n != 0 {
			t.Errorf("Size(%d): %d", w, n)
		}
		refused(t, err, api.ErrNone, link{"size", 0}, link{"words", 0})
	}
	_, err := copy.Size(k.from, gone)
	if err.Error() != "size: words: none" {
		t.Error(err)
	}
}

// noBlocks are words that name a block which is not there, in a heap with the block 5.
func noBlocks(gone uint64) []uint64 {
	return []uint64{gone, block(0), block(2), block(4), block(6), block(8), block(9), block(4000), block(api.MaxWords), block(1 << 32), block(1<<60 - 1), block(1<<61 - 1)}
}

// wordsThatStay are those of which a copy is the same word: small ones, also such as no heap makes, handles and marks.
func wordsThatStay() []uint64 {
	return []uint64{
		0, small(1), small(5), math.MaxUint64 - 7, 1 << 63,
		1, 1<<3 | 1, 1<<61 | 1, 1<<3 | 2, 1<<63 | 2, 1<<3 | 3, math.MaxUint64 - 4,
		nilWord, 1<<3 | nilWord,
		handleWord(0), handleWord(1), handleWord(9999), math.MaxUint64 - 1,
		7, mark(tupleMark, 0), mark(tupleMark, 2), mark(pairMark, 2), mark(numberMark, 0), mark(binaryMark, 1), mark(5, 1), math.MaxUint64,
	}
}

// P7.1: Copy

func TestCopyOfTerms(t *testing.T) {
	k := fresh(t)
	for _, text := range texts() {
		k.copiesText(t, text)
		words := 0
		for _, p := range k.to.Blocks() {
			n, _ := k.to.Len(p)
			words += n
		}
		if want := tree.Words(term(t, text)); words != want { // P7.3: it wants as many words as Size says
			t.Errorf("%s: %d words, not %d", text, words, want)
		}
		k.to.Drop()
	}
}

func TestWordsThatStayAsTheyAre(t *testing.T) {
	for _, k := range []kit{fresh(t), sized(t, 2, 1)} { // they want no room
		n := k.puts(t, "abc")
		lay(t, k.from, "{a}") // block 1, and atom 0
		for _, w := range wordsThatStay() {
			if got := k.copies(t, w); got != w {
				t.Errorf("Copy(%d): %d", w, got)
			}
		}
		if got := k.many(t, wordsThatStay()...); !slices.Equal(got, wordsThatStay()) {
			t.Errorf("Many: %v", got)
		}
		hasBlocks(t, k.to)
		k.hasCount(t, n, 1) // a handle's word is no binary's block
	}
}

func TestWordsThatStayWithinABlock(t *testing.T) {
	k := fresh(t)
	lay(t, k.from, "{1}")
	n := k.puts(t, "abc")
	words := append([]uint64{mark(tupleMark, len(wordsThatStay()))}, wordsThatStay()...)
	w := k.copies(t, raw(t, k.from, words...))
	hasBlocks(t, k.to, 1)
	isBlock(t, k.to, nameOf(w), words...)
	k.hasCount(t, n, 1)
}

// A small number, a handle or a mark whose other bits are a block's name names none.
func TestOnlyABlocksWordIsTurned(t *testing.T) {
	k := fresh(t)
	lay(t, k.to, "{1}") // so that the copy has another name
	p := raw(t, k.from, mark(tupleMark, 8), 0, 0, 0, 0, 0, 0, 0, 0)
	words := []uint64{mark(tupleMark, 8)}
	for tag := range uint64(8) {
		sets(t, k.from, nameOf(p), 1+int(tag), p&^7|tag)
		words = append(words, p&^7|tag)
	}
	w := k.copies(t, p)
	if w == p {
		t.Fatal("it has the same name")
	}
	words[6] = w // the word that names the block itself
	isBlock(t, k.to, nameOf(w), words...)
}

func TestCopyOfBlocksThatAreNotThere(t *testing.T) {
	k := fresh(t)
	gone := lay(t, k.from, "{1}")
	lay(t, k.from, "{2}") // block 5
	for _, text := range []string{"{1}", "[1,2,3]", "{{{<<1>>}}}"} {
		lay(t, k.to, text) // that the other heap has such a block says nothing
	}
	frees(t, k.from, gone)
	for _, w := range noBlocks(gone) {
		k.refuses(t, []uint64{w}, api.ErrNone, link{"size", 0}, link{"words", 0})
	}
	_, err := copy.Copy(k.to, k.from, gone)
	if err == nil || err.Error() != "copy: size: words: none" {
		t.Error(err)
	}
}

func TestNamesOfNothingWithinABlock(t *testing.T) {
	k := fresh(t)
	w := raw(t, k.from, mark(tupleMark, 4), block(0), block(99), lay(t, k.from, "[1]"), block(1<<61-1))
	got := k.copies(t, w)
	hasBlocks(t, k.to, 1, 9)
	isBlock(t, k.to, nameOf(got), mark(tupleMark, 4), block(0), block(99), block(9), block(1<<61-1))
}

func TestBlocksAreLaidAsTheyAreMet(t *testing.T) {
	k := fresh(t)
	w := k.copiesText(t, "{[1,2],{3,{4}},[5|6]}")
	if w != block(1) {
		t.Fatalf("%d", w)
	}
	hasBlocks(t, k.to, 1, 9, 13, 17, 21, 25)
	isBlock(t, k.to, 1, mark(tupleMark, 3), block(9), block(13), block(17))
	isBlock(t, k.to, 9, mark(pairMark, 2), small(1), block(21))
	isBlock(t, k.to, 13, mark(tupleMark, 2), small(3), block(25))
	isBlock(t, k.to, 17, mark(pairMark, 2), small(5), small(6))
	isBlock(t, k.to, 21, mark(pairMark, 2), small(2), nilWord)
	isBlock(t, k.to, 25, mark(tupleMark, 1), small(4))
}

// What is met twice counts where it is met first.
func TestABlockThatIsMetAgain(t *testing.T) {
	k := fresh(t)
	low := lay(t, k.from, "{low}")
	mid := raw(t, k.from, mark(tupleMark, 1), low)
	w := raw(t, k.from, mark(tupleMark, 3), mid, low, mid)
	k.copies(t, w)
	hasBlocks(t, k.to, 1, 9, 13)
	isBlock(t, k.to, 1, mark(tupleMark, 3), block(9), block(13), block(9))
	isBlock(t, k.to, 9, mark(tupleMark, 1), block(13))
	isBlock(t, k.to, 13, mark(tupleMark, 1), 1)
}

func TestFreedBlocksAreTaken(t *testing.T) {
	k := fresh(t)
	a, b, c := lay(t, k.to, "{1}"), lay(t, k.to, "{2}"), lay(t, k.to, "{3}")
	frees(t, k.to, c)
	frees(t, k.to, a)
	if w := k.copiesText(t, "{{{4}}}"); w != a {
		t.Fatalf("%d", w)
	}
	hasBlocks(t, k.to, 1, 5, 9, 13)
	isBlock(t, k.to, 1, mark(tupleMark, 1), c)
	isBlock(t, k.to, 9, mark(tupleMark, 1), block(13))
	says(t, k.to, b, "{2}")
}

func TestSharedPartsAreShared(t *testing.T) {
	k := fresh(t)
	shared := lay(t, k.from, "[<<1,2>>]")
	w := raw(t, k.from, mark(pairMark, 2), shared, raw(t, k.from, mark(pairMark, 2), shared, nilWord))
	got := k.copies(t, w)
	says(t, k.to, got, "[[<<1,2>>],[<<1,2>>]]")
	hasBlocks(t, k.to, 1, 5, 9, 13)
	isBlock(t, k.to, 1, mark(pairMark, 2), block(5), block(9))
	isBlock(t, k.to, 9, mark(pairMark, 2), block(5), nilWord)
	k.hasCount(t, 0, 2)
	again := k.copies(t, w) // a second go shares nothing with the first one
	says(t, k.to, again, "[[<<1,2>>],[<<1,2>>]]")
	if again == got || len(k.to.Blocks()) != 8 {
		t.Errorf("%d, %d: %v", got, again, k.to.Blocks())
	}
	k.hasCount(t, 0, 3)
}

// Of 2^60 ways down, each block is met once.
func TestPartsThatAreSharedAgainAndAgain(t *testing.T) {
	k := fresh(t)
	w := lay(t, k.from, "{end}")
	for range 60 {
		w = raw(t, k.from, mark(tupleMark, 2), w, w)
	}
	hasSize(t, k.from, w, 60*3+2)
	got := k.copies(t, w)
	if n := len(k.to.Blocks()); n != 61 {
		t.Fatalf("%d blocks", n)
	}
	hasSize(t, k.to, got, 60*3+2)
	for range 60 {
		words := wordsOf(k.to, nameOf(got))
		if words[1] != words[2] {
			t.Fatalf("%v", words)
		}
		got = words[1]
	}
	says(t, k.to, got, "{end}")
}

func TestBinariesAreShared(t *testing.T) {
	k := fresh(t)
	whole := lay(t, k.from, "<<1,2,3,4>>")
	part := view(t, k.from, whole, 1, 2)
	w := raw(t, k.from, mark(tupleMark, 4), whole, part, lay(t, k.from, "<<5>>"), whole)
	k.hasCount(t, 0, 2)
	got := k.copies(t, w)
	says(t, k.to, got, "{<<1,2,3,4>>,<<2,3>>,<<5>>,<<1,2,3,4>>}")
	hasBlocks(t, k.to, 1, 9, 17, 25)
	isBlock(t, k.to, 9, mark(binaryMark, 1), handleWord(0), 0, 4)
	isBlock(t, k.to, 17, mark(binaryMark, 1), handleWord(0), 1, 2)
	isBlock(t, k.to, 25, mark(binaryMark, 1), handleWord(1), 0, 1)
	k.hasCount(t, 0, 4) // once more for each block, and the whole one is one block
	k.hasCount(t, 1, 2)
	if k.bins.Used() != 5 {
		t.Errorf("%d bytes", k.bins.Used())
	}
	k.from.Drop() // the copy does not hang on what was copied
	k.hasCount(t, 0, 2)
	k.hasCount(t, 1, 1)
	says(t, k.to, got, "{<<1,2,3,4>>,<<2,3>>,<<5>>,<<1,2,3,4>>}")
	if n := k.to.Collect(block(17)); n != 3 {
		t.Errorf("%d given back", n)
	}
	k.hasCount(t, 0, 1)
	k.hasHandles(t, 0)
	k.to.Collect()
	k.hasHandles(t)
}

// A binary wants no more room than its block, also in the least heap that has it.
func TestABinaryInAHeapWithJustItsRoom(t *testing.T) {
	k := sized(t, 8, 8)
	w := lay(t, k.from, "<<1,2>>")
	says(t, k.to, k.copies(t, w), "<<1,2>>")
	if k.to.Used() != 8 || k.to.Top() != 8 {
		t.Errorf("%d used, top %d", k.to.Used(), k.to.Top())
	}
	k.hasCount(t, 0, 2)
	k.refuses(t, []uint64{w}, api.ErrFull, link{"alloc", 4})
}

// lookalikes are blocks that hold a handle's word, and are not of a binary's form.
func lookalikes(w uint64) [][]uint64 {
	return [][]uint64{
		{mark(binaryMark, 1), w, 0, 3, 0}, {mark(binaryMark, 1), w, 0}, {mark(binaryMark, 1), w}, {mark(binaryMark, 1)},
		{mark(binaryMark, 0), w, 0, 3}, {mark(binaryMark, 2), w, 0, 3}, {mark(binaryMark, 3), w, 0, 3},
		{mark(tupleMark, 1), w, 0, 3}, {mark(pairMark, 1), w, 0, 3}, {mark(numberMark, 1), w, 0, 3},
		{mark(tupleMark, 3), w, 0, 3}, {mark(tupleMark, 1), w}, {mark(pairMark, 2), w, w}, {mark(numberMark, 0), w},
		{w, w, w, w}, {0, w, 0, 3}, {mark(5, 1), w, 0, 3}, {mark(binaryMark, 1) + 1<<40, w, 0, 3},
		{mark(binaryMark, 1), w &^ 7, 0, 3}, {mark(binaryMark, 1), w | 1, 0, 3}, // no handle
		{},
	}
}

func TestOnlyBinariesHoldHandles(t *testing.T) {
	k := fresh(t)
	n := k.puts(t, "abc")
	for _, words := range lookalikes(handleWord(n)) {
		got := k.copies(t, raw(t, k.from, words...))
		isBlock(t, k.to, nameOf(got), words...)
		k.hasCount(t, n, 1)
	}
	k.to.Drop()
	k.hasCount(t, n, 1)
	got := k.copies(t, raw(t, k.from, mark(binaryMark, 1), handleWord(n), 99, 1<<63)) // its form is one, wherever it may begin
	isBlock(t, k.to, nameOf(got), mark(binaryMark, 1), handleWord(n), 99, 1<<63)
	k.hasCount(t, n, 2)
	k.to.Drop()
	k.hasCount(t, n, 1)
}

func TestHandlesThatNobodyHolds(t *testing.T) {
	k := fresh(t)
	w := lay(t, k.from, "<<1,2>>")
	if err := k.bins.Drop(0); err != nil {
		t.Fatal(err)
	}
	again := k.puts(t, "new") // the same slot
	for _, n := range []int{0, again, again + 1, again + api.MaxHandles, 1<<61 - 1} {
		w := k.copies(t, raw(t, k.from, mark(binaryMark, 1), handleWord(n), 0, 2))
		isBlock(t, k.to, nameOf(w), mark(binaryMark, 1), handleWord(n), 0, 2)
	}
	k.hasCount(t, again, 2) // by the block of this handle
	got := k.copies(t, w)
	if _, err := k.to.Load(got); fault.Kind(err) != api.ErrStale {
		t.Error(err)
	}
	k.to.Drop()
	k.hasCount(t, again, 1)
	k.hasHandles(t, again)
}

func TestOnlyWordsThatAreLookedAtAreTurned(t *testing.T) {
	k := fresh(t)
	lay(t, k.to, "{1}")
	w := lay(t, k.from, "{7}")
	cases := [][]uint64{
		{mark(numberMark, 0), w}, {mark(binaryMark, 1), small(0), w, w}, // a number, and places, that look like a block's word
		{w, w, w}, {0, w}, {mark(5, 2), w, w}, {mark(tupleMark, 2) + 1<<40, w, w}, // no mark: nothing is looked at
		{mark(tupleMark, 0), w, w}, {}, {w}, {mark(tupleMark, 3)},
	}
	for _, words := range cases {
		blocks := len(k.to.Blocks())
		got := k.copies(t, raw(t, k.from, words...))
		isBlock(t, k.to, nameOf(got), words...)
		if len(k.to.Blocks()) != blocks+1 {
			t.Errorf("%v: blocks %v", words, k.to.Blocks())
		}
	}
	got := k.copies(t, raw(t, k.from, mark(binaryMark, 2), w, w, w, w)) // of no form: as many as the mark says
	first := wordsOf(k.to, nameOf(got))[1]
	isBlock(t, k.to, nameOf(got), mark(binaryMark, 2), first, first, w, w)
	says(t, k.to, first, "{7}")
	got = k.copies(t, raw(t, k.from, mark(tupleMark, api.MaxWords), w)) // and as the block has
	first = wordsOf(k.to, nameOf(got))[1]
	isBlock(t, k.to, nameOf(got), mark(tupleMark, api.MaxWords), first)
	says(t, k.to, first, "{7}")
}
