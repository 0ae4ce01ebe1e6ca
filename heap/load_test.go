package heap_test

import (
	"bytes"
	"math"
	"strings"
	"testing"

	"troupe/api"
	"troupe/word"
)

// P6.3

func TestLoadOfWordsThatNameNoBlock(t *testing.T) {
	k := fresh(t)
	tuple := k.text(t, "{1,{2}}") // blocks 1 and 5
	gone := k.text(t, "{3}")
	if err := k.Free(nameOf(gone)); err != nil {
		t.Fatal(err)
	}
	for _, p := range []int{0, 2, 3, 4, 6, nameOf(gone), 100, 4095, 4096, api.MaxWords, 1<<61 - 1} {
		k.noLoad(t, block(p), api.ErrNone)
	}
	k.sets(t, 5, 2, gone) // and as a part
	k.noLoad(t, tuple+32, api.ErrNone)
	k.noLoad(t, block(5), api.ErrNone)
	for _, w := range []uint64{block(0), block(2), gone} {
		k.noLoad(t, block(k.raw(t, mark(tupleMark, 1), w)), api.ErrNone)
		k.noLoad(t, block(k.raw(t, mark(pairMark, 2), w, nilWord)), api.ErrNone)
		k.noLoad(t, block(k.raw(t, mark(pairMark, 2), 0, w)), api.ErrNone)
	}
	k.loads(t, block(1), tup(num(2)))
}

func TestLoadOfSmallWordsThatAreNone(t *testing.T) {
	k := fresh(t)
	k.text(t, "{a,b}")
	cases := []struct {
		w    uint64
		kind api.Errno
	}{
		{atomWord(2), api.ErrNone}, {atomWord(api.MaxAtoms), api.ErrNone}, {math.MaxUint64 - 6, api.ErrNone}, // atoms that are not there
		{nilWord + 8, api.ErrArg}, {1<<63 | nilWord, api.ErrArg},
		{1<<63 | 2, api.ErrArg}, {1<<63 | 3, api.ErrArg}, // from 2^60 on
		{6, api.ErrArg}, {handleWord(5), api.ErrArg}, {math.MaxUint64 - 1, api.ErrArg}, // handles
		{7, api.ErrArg}, {mark(tupleMark, 0), api.ErrArg}, {mark(numberMark, 0), api.ErrArg}, {math.MaxUint64, api.ErrArg}, // marks
	}
	for _, c := range cases {
		k.noLoad(t, c.w, c.kind)
		for _, p := range []int{
			k.raw(t, mark(tupleMark, 2), 0, c.w),
			k.raw(t, mark(pairMark, 2), c.w, nilWord),
			k.raw(t, mark(pairMark, 2), 0, c.w), // a Rest that is none may be
		} {
			k.noLoad(t, block(p), c.kind)
			k.noLoad(t, block(k.raw(t, mark(tupleMark, 1), block(p))), c.kind)
		}
	}
	held := k.puts(t, "abc")
	k.noLoad(t, handleWord(held), api.ErrArg) // also one that is there
	k.hasCount(t, held, 1)
}

func TestLoadOfBlocksOfNoForm(t *testing.T) {
	k := fresh(t)
	handle := handleWord(k.puts(t, "abc"))
	blocks := [][]uint64{
		{}, {0}, {0, 0, 0}, {7, 0}, {nilWord, 0, 0}, {handle, 0, 0, 0}, // no mark
		{mark(5, 1), 0}, {mark(0, 1), 0}, {mark(7, 0)}, {mark(6, 2), 0, nilWord},
		{mark(tupleMark, 0), 0}, {mark(tupleMark, 1)}, {mark(tupleMark, 2), 0}, {mark(tupleMark, 1), 0, 0}, {mark(tupleMark, api.MaxWords), 0}, {math.MaxUint64},
		{mark(pairMark, 2), 0}, {mark(pairMark, 2), 0, nilWord, 0}, {mark(pairMark, 1), 0, nilWord}, {mark(pairMark, 3), 0, nilWord}, {mark(pairMark, 1), 0}, {mark(pairMark, 0)}, {mark(pairMark, 3), 0, 0, nilWord},
		{mark(numberMark, 0)}, {mark(numberMark, 0), 1 << 60, 0}, {mark(numberMark, 1), 1 << 60}, {mark(numberMark, 1), 1 << 60, 0},
		{mark(binaryMark, 1), handle, 0}, {mark(binaryMark, 1), handle, 0, 3, 0}, {mark(binaryMark, 0), handle, 0, 3}, {mark(binaryMark, 3), handle, 0, 3}, {mark(binaryMark, 0), 0, 3}, {mark(binaryMark, 2), handle, 0, 3, 0},
		{mark(binaryMark, 1), 0, 0, 3}, {mark(binaryMark, 1), atomWord(0), 0, 3}, {mark(binaryMark, 1), block(1), 0, 3}, {mark(binaryMark, 1), mark(binaryMark, 1), 0, 3}, // no handle
	}
	for _, words := range blocks {
		p := block(k.raw(t, words...))
		k.noLoad(t, p, api.ErrArg)
		k.noLoad(t, block(k.raw(t, mark(tupleMark, 2), 0, p)), api.ErrArg)
		k.noLoad(t, block(k.raw(t, mark(pairMark, 2), p, nilWord)), api.ErrArg)
		k.noLoad(t, block(k.raw(t, mark(pairMark, 2), 0, p)), api.ErrArg)
	}
	k.loads(t, block(k.raw(t, mark(binaryMark, 1), handle, 0, 3)), bin("abc"))
}

func TestLoadOfPairs(t *testing.T) {
	k := fresh(t)
	pair := func(first, behind uint64) uint64 { return block(k.raw(t, mark(pairMark, 2), first, behind)) }
	one := pair(small(1), nilWord)
	k.loads(t, one, list(num(1)))
	k.loads(t, pair(small(0), one), list(num(0), num(1)))
	k.loads(t, pair(one, one), list(list(num(1)), num(1)))
	k.loads(t, pair(nilWord, nilWord), list(empty()))
	k.loads(t, pair(small(1), small(2)), ending(num(2), num(1)))
	k.loads(t, pair(small(1), k.text(t, "{}")), ending(tup(), num(1)))
	k.loads(t, pair(small(1), k.text(t, "atom")), ending(atom("atom"), num(1)))
	k.loads(t, pair(small(1), k.stores(t, bin("ab"))), ending(bin("ab"), num(1)))
	k.loads(t, pair(small(1), k.stores(t, big(7))), ending(big(7), num(1)))
}

func TestLoadOfBinaries(t *testing.T) {
	k := fresh(t)
	n := k.puts(t, "abcdef")
	w := handleWord(n)
	is := func(from, length uint64, want string) {
		t.Helper()
		k.loads(t, block(k.raw(t, mark(binaryMark, 1), w, from, length)), bin(want))
	}
	is(0, 6, "abcdef")
	is(2, 3, "cde")
	is(6, 0, "")
	is(0, 0, "")
	for _, c := range [][2]uint64{{0, 7}, {6, 1}, {7, 0}, {5, 2}, {1 << 63, 0}, {0, 1 << 63}, {math.MaxUint64, 1}, {1, math.MaxUint64}, {1 << 62, 1 << 62}, {math.MaxInt64, math.MaxInt64}} {
		p := block(k.raw(t, mark(binaryMark, 1), w, c[0], c[1]))
		k.noLoad(t, p, api.ErrIndex)
		k.noLoad(t, block(k.raw(t, mark(tupleMark, 1), p)), api.ErrIndex)
	}
	for _, never := range []int{n + 1, n + api.MaxHandles, 1 << 40, 1<<61 - 1} {
		k.noLoad(t, block(k.raw(t, mark(binaryMark, 1), handleWord(never), 0, 0)), api.ErrNone)
	}
	is(0, 6, "abcdef")
}

func TestLoadOfABinaryThatIsStale(t *testing.T) {
	k := fresh(t)
	w := k.stores(t, bin("abc"))
	whole := k.stores(t, tup(num(1), list(bin("x"))))
	for _, n := range []int{0, 1} {
		if err := k.bins.Drop(n); err != nil {
			t.Fatal(err)
		}
	}
	k.noLoad(t, w, api.ErrStale)
	k.noLoad(t, whole, api.ErrStale)
	k.puts(t, "abc") // the same slots under other handles
	k.puts(t, "x")
	k.noLoad(t, w, api.ErrStale)
	k.noLoad(t, whole, api.ErrStale)
}

func TestLoadOfBlocksThatGoRound(t *testing.T) {
	k := fresh(t)
	round := func(words ...uint64) uint64 { // a 0 is the block itself
		p := k.raw(t, words...)
		for i, w := range words {
			if w == 0 {
				k.sets(t, p, i, block(p))
			}
		}
		return block(p)
	}
	for _, w := range []uint64{
		round(mark(tupleMark, 1), 0),
		round(mark(tupleMark, 2), 0, 0),
		round(mark(tupleMark, 3), small(1), 0, 0),
		round(mark(pairMark, 2), small(1), 0),
		round(mark(pairMark, 2), 0, nilWord),
		round(mark(pairMark, 2), 0, 0),
		round(mark(pairMark, 2), 0, small(1)),
	} {
		k.noLoad(t, w, api.ErrFull)
		k.noLoad(t, block(k.raw(t, mark(tupleMark, 1), w)), api.ErrFull)
	}
	a := k.raw(t, mark(pairMark, 2), small(1), nilWord)
	b := k.raw(t, mark(tupleMark, 2), block(a), small(2))
	c := k.raw(t, mark(pairMark, 2), small(3), block(b))
	k.sets(t, a, 2, block(c))
	for _, p := range []int{a, b, c} {
		k.noLoad(t, block(p), api.ErrFull)
	}
	k.sets(t, a, 2, nilWord)
	k.loads(t, block(c), ending(tup(list(num(1)), num(2)), num(3)))
}

func TestLoadAsDeepAsMayBe(t *testing.T) {
	k := roomy(t)
	tuple := func(w uint64) uint64 { return block(k.raw(t, mark(tupleMark, 1), w)) }
	item := func(w uint64) uint64 { return block(k.raw(t, mark(pairMark, 2), w, nilWord)) }
	rest := func(w uint64) uint64 { return tuple(block(k.raw(t, mark(pairMark, 2), small(7), w))) } // two deep
	for i, grow := range []func(uint64) uint64{tuple, item, rest} {
		w, depth := k.text(t, "{}"), 1
		for depth < api.MaxDepth-1 {
			w = grow(w)
			depth++
			if i == 2 {
				depth++
			}
		}
		if depth < api.MaxDepth {
			w = tuple(w)
		}
		x, err := k.Load(w)
		if err != nil {
			t.Fatalf("%d: %v", i, err)
		}
		k.loads(t, k.stores(t, x), x)
		k.noLoad(t, tuple(w), api.ErrFull)
		k.noLoad(t, item(w), api.ErrFull)
		k.noLoad(t, block(k.raw(t, mark(pairMark, 2), small(1), w)), api.ErrFull)
		k.noLoad(t, grow(grow(w)), api.ErrFull)
	}
	k.loads(t, item(small(1)), list(num(1))) // a long list is not deep
	long := uint64(nilWord)
	for range 3 * api.MaxDepth {
		long = block(k.raw(t, mark(pairMark, 2), small(1), long))
	}
	if x, err := k.Load(long); err != nil || len(x.Items) != 3*api.MaxDepth {
		t.Errorf("%d, %v", len(x.Items), err)
	}
}

func TestLoadWithAsManyPartsAsMayBe(t *testing.T) {
	const most = api.MaxTerms - 1 // beside what they are parts of
	k := roomy(t)
	full := k.stores(t, tup(many(most)...))
	p := nameOf(full)
	k.loads(t, full, tup(many(most)...))
	words := k.words(p)
	words[0] = mark(tupleMark, most+1)
	k.noLoad(t, block(k.raw(t, append(words, small(1))...)), api.ErrFull)
	k.noLoad(t, block(k.raw(t, mark(tupleMark, 1), full)), api.ErrFull)

	long := k.stores(t, list(many(most)...))
	k.loads(t, long, list(many(most)...))
	k.noLoad(t, block(k.raw(t, mark(pairMark, 2), small(1), long)), api.ErrFull)
	ended := k.stores(t, ending(num(5), many(most-1)...))
	k.loads(t, ended, ending(num(5), many(most-1)...))
	k.noLoad(t, block(k.raw(t, mark(pairMark, 2), small(1), ended)), api.ErrFull)
}

func TestLoadOfSharedParts(t *testing.T) {
	k := fresh(t)
	w, x := k.text(t, "{}"), tup()
	for range 14 { // each twice as great
		w = block(k.raw(t, mark(tupleMark, 2), w, w))
		x = tup(x, x)
	}
	k.loads(t, w, x) // 2^15 - 1 parts
	again := block(k.raw(t, mark(tupleMark, 2), w, w))
	k.loads(t, again, tup(x, x)) // 2^16 - 1
	k.loads(t, block(k.raw(t, mark(tupleMark, 1), again)), tup(tup(x, x)))
	k.noLoad(t, block(k.raw(t, mark(tupleMark, 2), again, small(1))), api.ErrFull)
	for range 100 {
		w = block(k.raw(t, mark(tupleMark, 2), w, w))
		if w&7 != 5 {
			t.Fatal(w)
		}
	}
	k.noLoad(t, w, api.ErrFull)
}

func TestLoadOfAsManyBytesAsMayBe(t *testing.T) {
	const most = api.MaxTerms - 1
	k := roomy(t)
	n := k.puts(t, strings.Repeat("x", 3*most))
	cut := func(from, length uint64) uint64 {
		return block(k.raw(t, mark(binaryMark, 1), handleWord(n), from, length))
	}
	k.loads(t, cut(5, most), bin(strings.Repeat("x", most)))
	k.noLoad(t, cut(5, most+1), api.ErrFull)
	k.noLoad(t, cut(0, 3*most), api.ErrFull)
	k.noLoad(t, block(k.raw(t, mark(tupleMark, 1), cut(0, most))), api.ErrFull)
	k.loads(t, block(k.raw(t, mark(tupleMark, 1), cut(0, most-1))), tup(bin(strings.Repeat("x", most-1))))
	half := cut(0, most/2)
	k.noLoad(t, block(k.raw(t, mark(tupleMark, 3), half, half, small(1))), api.ErrFull)
	k.noLoad(t, block(k.raw(t, mark(pairMark, 2), half, half)), api.ErrFull)
	k.noLoad(t, block(k.raw(t, mark(tupleMark, 3), half, cut(0, most/2-1), nilWord)), api.ErrFull)
	x := tup(bin(strings.Repeat("x", most/2)), bin(strings.Repeat("x", most/2-2)), empty())
	k.loads(t, block(k.raw(t, mark(tupleMark, 3), half, cut(0, most/2-2), nilWord)), x)
}

// R3

func TestWhatIsLoadedIsNewMemory(t *testing.T) {
	k := fresh(t)
	x := ending(tup(num(1), bin("rest")), bin("abc"), list(num(1), num(2)), tup(num(3)))
	w := k.stores(t, x)
	one, err := k.Load(w)
	if err != nil {
		t.Fatal(err)
	}
	two, _ := k.Load(w)
	spoil(one)
	if !same(two, x) {
		t.Error("two answers share memory")
	}
	k.loads(t, w, x)
	shared := k.text(t, "[1]")
	pair, err := k.Load(block(k.raw(t, mark(tupleMark, 2), shared, shared)))
	if err != nil {
		t.Fatal(err)
	}
	spoil(pair.Items[0])
	if !same(pair.Items[1], list(num(1))) {
		t.Error("two parts of an answer share memory")
	}
	half := k.stores(t, bin("abcdef"))
	whole, err := k.Load(block(k.raw(t, mark(tupleMark, 2), half, half)))
	if err != nil {
		t.Fatal(err)
	}
	spoil(whole.Items[0])
	if !same(whole.Items[1], bin("abcdef")) {
		t.Error("two binaries of an answer share memory")
	}
}

// spoil writes to all memory of a term, its spare room too.
func spoil(x api.Term) {
	for _, part := range append(x.Items, x.Rest...) {
		spoil(part)
	}
	for i := range x.Items[:cap(x.Items)] {
		x.Items[:cap(x.Items)][i] = atom("spoilt")
	}
	for i := range x.Rest[:cap(x.Rest)] {
		x.Rest[:cap(x.Rest)][i] = atom("spoilt")
	}
	for i := range x.Bytes[:cap(x.Bytes)] {
		x.Bytes[:cap(x.Bytes)][i] = '!'
	}
}

// P6.4

func TestViews(t *testing.T) {
	k := fresh(t)
	const text = "abcdef"
	w := k.stores(t, bin(text))
	count := 1
	for from := -2; from <= len(text)+2; from++ {
		for n := -2; n <= len(text)+3; n++ {
			if from < 0 || n < 0 || from+n > len(text) {
				k.noView(t, w, from, n, api.ErrIndex)
				continue
			}
			part, err := k.View(w, from, n)
			if err != nil || isSmall(part) {
				t.Fatalf("View(%d, %d): %d, %v", from, n, part, err)
			}
			count++
			k.hasCount(t, 0, count)
			k.isBlock(t, nameOf(part), mark(binaryMark, 1), handleWord(0), uint64(from), uint64(n))
			k.loads(t, part, bin(text[from:from+n]))
		}
	}
	k.loads(t, w, bin(text))
	if b := k.bins.Used(); b != len(text) {
		t.Errorf("%d bytes", b)
	}
}

func TestViewsOfViews(t *testing.T) {
	k := fresh(t)
	k.puts(t, "first") // so the handle is another than 0
	w := k.stores(t, bin("abcdefgh"))
	view := func(w uint64, from, n int) uint64 {
		t.Helper()
		part, err := k.View(w, from, n)
		if err != nil {
			t.Fatal(err)
		}
		return part
	}
	inner := view(w, 2, 5)
	k.loads(t, inner, bin("cdefg"))
	part := view(inner, 1, 3)
	k.loads(t, part, bin("def"))
	k.isBlock(t, nameOf(part), mark(binaryMark, 1), handleWord(1), 3, 3)
	k.loads(t, view(part, 3, 0), bin(""))
	k.loads(t, view(part, 0, 3), bin("def"))
	k.hasCount(t, 1, 5)
	k.noView(t, inner, 0, 6, api.ErrIndex) // its own end, not the handle's
	k.noView(t, inner, 5, 1, api.ErrIndex)
	k.noView(t, inner, -1, 2, api.ErrIndex)
	k.noView(t, part, 4, 0, api.ErrIndex)
	k.collects(t, 4, part)
	k.hasCount(t, 1, 1)
	k.loads(t, part, bin("def"))
	k.collects(t, 1)
	k.isGone(t, 1)
	k.hasCount(t, 0, 1)
}

func TestViewsFarBeyond(t *testing.T) {
	k := fresh(t)
	w := k.stores(t, bin("abcdef"))
	none := k.stores(t, bin(""))
	far := []int{math.MinInt, math.MinInt + 1, -1, 7, api.MaxWords, math.MaxInt - 6, math.MaxInt - 1, math.MaxInt}
	for _, one := range far {
		for _, w := range []uint64{w, none} {
			k.noView(t, w, one, 0, api.ErrIndex)
			k.noView(t, w, 0, one, api.ErrIndex)
			for _, two := range far {
				k.noView(t, w, one, two, api.ErrIndex)
			}
		}
	}
	for from := range 7 {
		k.noView(t, w, from, math.MaxInt-from, api.ErrIndex)
	}
	if part, err := k.View(none, 0, 0); err != nil {
		t.Errorf("%d, %v", part, err)
	}
	k.noView(t, none, 0, 1, api.ErrIndex)
	k.noView(t, none, 1, 0, api.ErrIndex)
}

func TestViewsOfWhatIsNoBinary(t *testing.T) {
	k := fresh(t)
	handle := handleWord(k.puts(t, "abc"))
	words := []uint64{
		0, small(5), atomWord(0), nilWord, 2, 3, handle, mark(binaryMark, 1), math.MaxUint64,
		block(0), block(2), block(500), block(1<<61 - 1),
		k.text(t, "{1}"), k.text(t, "[1,2]"), k.stores(t, big(1)), k.text(t, "{}"),
		block(k.raw(t)),
		block(k.raw(t, 0, 0, 0, 0)),
		block(k.raw(t, mark(binaryMark, 1), small(0), 0, 3)), // no handle
		block(k.raw(t, mark(binaryMark, 1), handle, 0)),
		block(k.raw(t, mark(binaryMark, 1), handle, 0, 3, 0)),
		block(k.raw(t, mark(tupleMark, 3), handle, 0, small(1))),
	}
	for _, w := range words {
		for _, c := range [][2]int{{0, 0}, {0, 1}, {-1, 0}, {0, -1}, {9, 9}} { // this counts ahead of a wrong index
			k.noView(t, w, c[0], c[1], api.ErrArg)
		}
	}
}

func TestViewsWithoutRoom(t *testing.T) {
	k := sized(t, 64, 20, word.NewAtoms(), bins(t, 1, 10))
	w := k.stores(t, bin("abcdef"))
	if _, err := k.View(w, 1, 2); err != nil { // it wants no slot of the binaries
		t.Fatal(err)
	}
	k.noView(t, w, 1, 2, api.ErrFull, link{"alloc", 4})
	k.noView(t, w, 0, 0, api.ErrFull, link{"alloc", 4})
	k.noView(t, w, 1, 6, api.ErrIndex) // what is wrong with it counts first
	k.noView(t, 8, 1, 6, api.ErrArg)
	k.hasCount(t, 0, 2)
	k.collects(t, 1, w)
	if part, err := k.View(w, 5, 1); err != nil {
		t.Errorf("%d, %v", part, err)
	}
}

func TestAViewHoldsItsBytes(t *testing.T) {
	k := fresh(t)
	w := k.stores(t, bin("abcdef"))
	part, err := k.View(w, 4, 2)
	if err != nil {
		t.Fatal(err)
	}
	k.collects(t, 1, part)
	k.loads(t, part, bin("ef"))
	if b, err := k.bins.Bytes(0); !bytes.Equal(b, []byte("abcdef")) || err != nil {
		t.Errorf("%q, %v", b, err)
	}
	k.Drop()
	k.isGone(t, 0)
}
