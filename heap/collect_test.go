package heap_test

import (
	"math"
	"slices"
	"testing"

	"troupe/api"
	"troupe/word"
)

// P6.6

func TestCollectOfNothingHeld(t *testing.T) {
	k := fresh(t)
	k.collects(t, 0)
	k.stores(t, parts())
	blocks := len(k.Blocks())
	k.collects(t, blocks)
	k.hasBlocks(t)
	if k.Used() != 0 || len(k.bins.Handles()) != 0 || k.bins.Used() != 0 {
		t.Errorf("%d used, handles %v", k.Used(), k.bins.Handles())
	}
	k.collects(t, 0)
}

func TestCollectOfSomethingHeld(t *testing.T) {
	k := fresh(t)
	k.text(t, "{dropped}")
	kept := k.stores(t, parts())
	k.holds(t, kept, 0)
	k.stores(t, bin("dropped"))
	other := k.text(t, "[5]")
	k.holds(t, small(3), 1)
	k.holds(t, other, 2)
	k.stores(t, big(1))
	k.collects(t, 3)
	k.loads(t, kept, parts())
	k.loads(t, other, list(num(5)))
	k.hasHeld(t, kept, small(3), other)
	k.collects(t, 0)
	if err := k.Swap(0, other); err != nil {
		t.Fatal(err)
	}
	k.collects(t, 9)
	k.hasBlocks(t, nameOf(other))
	if err := k.Let(0); err != nil {
		t.Fatal(err)
	}
	k.collects(t, 0) // slot 2 holds it still
	if err := k.Let(2); err != nil {
		t.Fatal(err)
	}
	k.collects(t, 1)
	k.hasBlocks(t)
	k.hasHeld(t, small(3))
}

func TestCollectWithMoreWords(t *testing.T) {
	k := fresh(t)
	held := k.text(t, "{held}")
	k.Hold(held)
	a, b, c := k.text(t, "{a,[1]}"), k.text(t, "[b,{2}]"), k.stores(t, bin("c"))
	k.stores(t, big(1))
	k.collects(t, 1, a, c, b)
	k.loads(t, b, term(t, "[b,{2}]"))
	k.collects(t, 3, c, a, a) // its two pairs and its tuple
	k.loads(t, a, term(t, "{a,[1]}"))
	k.loads(t, c, bin("c"))
	k.collects(t, 0, c, held, a)
	k.collects(t, 3)
	k.hasBlocks(t, nameOf(held))
	k.hasHeld(t, held) // more words are held for this collection alone
}

func TestCollectOfSharedParts(t *testing.T) {
	k := fresh(t)
	shared := k.stores(t, list(bin("shared")))
	one := block(k.raw(t, mark(tupleMark, 2), shared, shared))
	two := block(k.raw(t, mark(pairMark, 2), small(1), shared))
	round := k.raw(t, mark(tupleMark, 2), one, two)
	k.sets(t, round, 1, block(round))
	k.collects(t, 0, block(round), one)
	k.collects(t, 2, two)
	k.loads(t, two, list(num(1), bin("shared")))
	k.collects(t, 1, shared)
	k.hasCount(t, 0, 1)
	k.collects(t, 2)
	k.isGone(t, 0)
}

func TestCollectOfBlocksThatGoRound(t *testing.T) {
	k := fresh(t)
	a := k.raw(t, mark(tupleMark, 2), 0, 0)
	b := k.raw(t, mark(pairMark, 2), block(a), block(a))
	k.sets(t, a, 1, block(b))
	k.sets(t, a, 2, block(a))
	k.hasWords(t, block(a), 6)
	k.hasWords(t, block(b), 6)
	k.collects(t, 0, block(b))
	k.collects(t, 0, block(a))
	k.collects(t, 2)
	k.hasBlocks(t)
}

func TestCollectPassesOverWordsThatNameNoBlock(t *testing.T) {
	k := fresh(t)
	kept := k.text(t, "{1}") // block 1
	gone := k.text(t, "{2}")
	if err := k.Free(nameOf(gone)); err != nil {
		t.Fatal(err)
	}
	k.sets(t, 1, 1, gone) // within a block too
	none := []uint64{0, 8, 1, 9, 2, 3, nilWord, nilWord + 8, 6, handleWord(1), 7, mark(tupleMark, 1), mark(pairMark, 0), math.MaxUint64, block(0), block(2), block(3), gone, block(4000), block(5000), block(1<<61 - 1)}
	for _, w := range none {
		k.Hold(w)
	}
	k.collects(t, 0, append(none, kept)...)
	k.isBlock(t, 1, mark(tupleMark, 1), gone)
	k.collects(t, 1, none...)
	k.hasBlocks(t)
	k.hasHeld(t, none...)
}

// A small number, a handle or a mark whose other bits are a block's name names none.
func TestOnlyABlocksWordNamesIt(t *testing.T) {
	k := fresh(t)
	k.text(t, "{1}")
	for tag := range uint64(8) {
		if tag == 5 {
			continue
		}
		before := k.state()
		k.hasWords(t, 1<<3|tag, 0)
		k.isAs(t, before)
	}
	k.collects(t, 1, 1<<3, 1<<3|1, 1<<3|2, 1<<3|3, 1<<3|4, 1<<3|6, 1<<3|7)
}

func TestOnlyWordsThatAreLookedAtReach(t *testing.T) {
	k := fresh(t)
	a := k.text(t, "{1}")
	k.stores(t, num(int64(a)))                              // small
	k.raw(t, mark(numberMark, 0), a)                        // a number that looks like a block's word
	n := k.raw(t, mark(binaryMark, 1), handleWord(0), a, a) // so do these
	k.collects(t, 1, block(5), block(n))
	k.hasBlocks(t, 5, n)
}

func TestCollectDropsHandlesOfBinariesAlone(t *testing.T) {
	k := fresh(t)
	n := k.puts(t, "abc")
	w := handleWord(n)
	lookalikes := [][]uint64{
		{mark(binaryMark, 1), w, 0, 3, 0}, {mark(binaryMark, 1), w, 0}, {mark(binaryMark, 1), w}, {mark(binaryMark, 1)},
		{mark(binaryMark, 0), w, 0, 3}, {mark(binaryMark, 2), w, 0, 3}, {mark(binaryMark, 3), w, 0, 3},
		{mark(tupleMark, 3), w, 0, 3}, {mark(tupleMark, 1), w}, {mark(pairMark, 2), w, w}, {mark(numberMark, 0), w},
		{w, w, w, w}, {0, w, 0, 3}, {mark(5, 1), w, 0, 3}, {mark(binaryMark, 1) + 1<<40, w, 0, 3},
		{mark(binaryMark, 1), uint64(n) << 3, 0, 3}, {mark(binaryMark, 1), block(n), 0, 3}, {mark(binaryMark, 1), mark(binaryMark, 1), 0, 3}, // no handle
		{mark(binaryMark, 1), handleWord(n + 1), 0, 3}, {mark(binaryMark, 1), handleWord(n + api.MaxHandles), 0, 3}, {mark(binaryMark, 1), math.MaxUint64 - 1, 0, 3}, // another one
		{},
	}
	for range 2 {
		for _, words := range lookalikes {
			k.raw(t, words...)
		}
		k.collects(t, len(lookalikes))
		k.hasCount(t, n, 1)
		for _, words := range lookalikes {
			k.raw(t, words...)
		}
		k.Drop()
		k.hasCount(t, n, 1)
	}
	k.raw(t, mark(binaryMark, 1), w, 99, 1<<63) // its form is one, wherever it may begin
	k.collects(t, 1)
	k.isGone(t, n)
}

func TestCollectDropsEachHandleAsOftenAsItIsHeld(t *testing.T) {
	k := fresh(t)
	w := k.stores(t, bin("abcdef"))
	var views []uint64
	for i := range 5 {
		part, err := k.View(w, i, 1)
		if err != nil {
			t.Fatal(err)
		}
		views = append(views, part)
	}
	k.hasCount(t, 0, 6)
	k.collects(t, 3, views[1], views[3], views[4])
	k.hasCount(t, 0, 3)
	k.loads(t, views[3], bin("d"))
	k.collects(t, 2, views[3])
	k.hasCount(t, 0, 1)
	k.loads(t, views[3], bin("d"))
	k.collects(t, 1)
	k.isGone(t, 0)
}

func TestBlocksAreGivenBackRising(t *testing.T) {
	k := fresh(t)
	for range 3 {
		k.stores(t, bin("x")) // blocks 1, 9, 17; handles 0, 1, 2
	}
	k.raw(t, 1, 2, 3, 4) // 25
	k.collects(t, 3, block(25))
	for i, want := range []int{17, 9, 1, 33} { // the one that was given back last comes first
		if p, err := k.Alloc(4); p != want || err != nil {
			t.Errorf("%d: %d, not %d: %v", i, p, want, err)
		}
	}
	for i, want := range []int{2 + api.MaxHandles, 1 + api.MaxHandles, api.MaxHandles, 3} {
		if n := k.puts(t, "y"); n != want {
			t.Errorf("%d: %d, not %d", i, n, want)
		}
	}
}

func TestCollectOfLongAndDeepTerms(t *testing.T) {
	k := sized(t, api.MaxWords, api.MaxWords, word.NewAtoms(), bins(t, 1, 0))
	const most = 200000
	long, nested := uint64(nilWord), uint64(nilWord)
	for range most / 2 {
		long = block(k.raw(t, mark(pairMark, 2), small(1), long))
		nested = block(k.raw(t, mark(tupleMark, 1), nested)) // far deeper than a term may be
	}
	k.hasWords(t, long, 3*most/2)
	k.hasWords(t, nested, most)
	k.collects(t, 0, long, nested)
	k.collects(t, most/2, nested)
	k.hasWords(t, nested, most)
	k.collects(t, most/2)
	if k.Used() != 0 {
		t.Errorf("%d used", k.Used())
	}
}

func TestWhatIsCollectedIsTakenAgain(t *testing.T) {
	k := sized(t, 64, 64, word.NewAtoms(), bins(t, 2, 10))
	for range 50 {
		w := k.stores(t, parts())
		k.noStore(t, bin(""), api.ErrFull, link{"put", 0})
		k.loads(t, w, parts())
		k.collects(t, 9)
	}
}

func TestWordsThatAreHandedInAreNotTurned(t *testing.T) {
	k := fresh(t)
	a, b := k.text(t, "{1,{2}}"), k.text(t, "[3,4]")
	k.Hold(a)
	more := append(make([]uint64, 0, 20), b, small(7), b)
	spare := more[:20]
	for range 3 {
		k.collects(t, 0, more...)
	}
	if !slices.Equal(spare, append([]uint64{b, small(7), b}, make([]uint64, 17)...)) {
		t.Errorf("%v", spare)
	}
	more[0] = 0
	k.collects(t, 2, more[:1]...)
	k.hasHeld(t, a)
}

func TestDrop(t *testing.T) {
	k := fresh(t)
	k.Drop()
	k.isEmpty(t)
	w := k.stores(t, parts())
	k.Hold(w)
	k.Hold(small(1))
	if _, err := k.View(k.stores(t, bin("abc")), 1, 1); err != nil {
		t.Fatal(err)
	}
	k.raw(t, 1, 2, 3)
	other := k.puts(t, "of another")
	k.Drop()
	k.isEmpty(t)
	if !slices.Equal(k.bins.Handles(), []int{other}) {
		t.Errorf("%v", k.bins.Handles())
	}
	k.hasCount(t, other, 1)
	k.noLoad(t, w, api.ErrNone)
	refused(t, k.Let(0), api.ErrNone, link{"slot", 0})
	refused(t, k.Swap(1, 0), api.ErrNone, link{"slot", 1})
	k.Drop() // once more: nothing is dropped twice
	k.hasCount(t, other, 1)

	if w := k.text(t, "{1,[2]}"); w != 45 { // it is as a new one
		t.Errorf("%d", w)
	}
	k.holds(t, 45, 0)
	k.hasHeld(t, 45)
}

func TestDropGivesHandlesBackRising(t *testing.T) {
	k := fresh(t)
	for range 3 {
		k.stores(t, bin("x"))
	}
	k.Drop()
	for _, want := range []int{2 + api.MaxHandles, 1 + api.MaxHandles, api.MaxHandles, 3} {
		if n := k.puts(t, "y"); n != want {
			t.Errorf("%d, not %d", n, want)
		}
	}
}

// P6.7

func TestWords(t *testing.T) {
	k := fresh(t)
	for s, want := range map[string]int{
		"7": 0, "atom": 0, "#p1": 0, "#r1": 0, "[]": 0,
		"1152921504606846976": 2, "{}": 1, "{1,2}": 3, "[1]": 3, "[1,2]": 6, "[1|2]": 3, "<<>>": 4, "<<1,2,3>>": 4,
		"{1,[2]}": 6, "{{},{}}": 5, "[{a,b},<<1>>|{c}]": 3 + 3 + 3 + 4 + 2,
	} {
		k.hasWords(t, k.text(t, s), want)
	}
	k.hasWords(t, k.stores(t, parts()), 5+4+2+3*4+2+4)
	k.hasWords(t, handleWord(0), 0)
	k.hasWords(t, mark(tupleMark, 1), 0)
	k.hasWords(t, math.MaxUint64, 0)
}

func TestWordsOfSharedParts(t *testing.T) {
	k := fresh(t)
	shared := k.text(t, "[1,2]")
	one := block(k.raw(t, mark(tupleMark, 3), shared, shared, shared))
	k.hasWords(t, one, 4+6)
	two := block(k.raw(t, mark(pairMark, 2), one, shared))
	k.hasWords(t, two, 3+4+6)
	w := two
	for range 60 {
		w = block(k.raw(t, mark(tupleMark, 2), w, w))
	}
	k.hasWords(t, w, 60*3+13)
	part, err := k.View(k.stores(t, bin("abc")), 0, 1)
	if err != nil {
		t.Fatal(err)
	}
	k.hasWords(t, part, 4)
}

func TestWordsOfWhatIsNotThere(t *testing.T) {
	k := fresh(t)
	gone := k.text(t, "{1}")
	w := k.text(t, "{1,{2,3}}")
	if err := k.Free(nameOf(gone)); err != nil {
		t.Fatal(err)
	}
	for _, none := range []uint64{gone, block(0), block(2), block(nameOf(w) + 1), block(4000), block(api.MaxWords), block(1<<61 - 1)} {
		before := k.state()
		n, err := k.Words(none)
		if n != 0 {
			t.Errorf("%d: %d", none, n)
		}
		refused(t, err, api.ErrNone, link{"words", 0})
		k.isAs(t, before)
	}
	p := k.raw(t, mark(tupleMark, 5), gone, w, block(0), small(1), handleWord(3)) // within blocks they are passed over
	k.hasWords(t, block(p), 6+3+3)
	k.hasWords(t, block(k.raw(t, 0, 0)), 2) // a block of no form is a block
	k.hasWords(t, block(k.raw(t)), 0)
}
