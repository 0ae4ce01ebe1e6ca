package copy_test

import (
	"testing"

	"troupe/api"
	"troupe/copy"
	"troupe/fault"
	"troupe/heap"
)

// Terms on a heap may be longer, and deeper, than a term may be, and may go round.

const far = 200000

// chain is a heap's word for so many blocks, each of which names the one before it.
func chain(t *testing.T, h *heap.Heap, form func(i int, behind uint64) []uint64) uint64 {
	t.Helper()
	w := uint64(nilWord)
	for i := range far {
		w = raw(t, h, form(i, w)...)
	}
	return w
}

// isChain asks for a chain's copy: that it is laid from its first block on.
func isChain(t *testing.T, h *heap.Heap, w uint64, form func(i int, behind uint64) []uint64) {
	t.Helper()
	if w != block(1) || len(h.Blocks()) != far {
		t.Fatalf("%d, %d blocks", w, len(h.Blocks()))
	}
	for i := far - 1; i >= 0; i-- {
		words := wordsOf(h, nameOf(w))
		behind := uint64(nilWord)
		if i > 0 {
			behind = w + 4*8
		}
		isBlock(t, h, nameOf(w), form(i, behind)...)
		w = words[len(words)-1]
	}
}

func TestChains(t *testing.T) {
	forms := map[string]func(i int, behind uint64) []uint64{
		"a long list": func(i int, behind uint64) []uint64 { return []uint64{mark(pairMark, 2), small(i), behind} },
		"deep tuples": func(i int, behind uint64) []uint64 { return []uint64{mark(tupleMark, 1), behind} },
		"deep lists":  func(i int, behind uint64) []uint64 { return []uint64{mark(pairMark, 2), nilWord, behind} },
	}
	for name, form := range forms {
		t.Run(name, func(t *testing.T) {
			k := fresh(t)
			w := chain(t, k.from, form)
			hasSize(t, k.from, w, far*len(form(0, 0)))
			got, err := copy.Copy(k.to, k.from, w)
			if err != nil {
				t.Fatal(err)
			}
			isChain(t, k.to, got, form)
			if _, err := copy.Copy(k.to, k.from, w); fault.Kind(err) != api.ErrFull { // a second one has no room
				t.Fatal(err)
			}
			isChain(t, k.to, got, form)
		})
	}
}

// However many words name it, a block is met once, and a go takes no longer for that.
func TestManyOfOneWordAgainAndAgain(t *testing.T) {
	k := fresh(t)
	w := chain(t, k.from, func(i int, behind uint64) []uint64 { return []uint64{mark(pairMark, 2), small(i), behind} })
	ws := make([]uint64, far)
	for i := range ws {
		ws[i] = w
	}
	got, err := copy.Many(k.to, k.from, ws...)
	if err != nil || len(k.to.Blocks()) != far {
		t.Fatalf("%d blocks, %v", len(k.to.Blocks()), err)
	}
	for i, v := range got {
		if v != block(1) {
			t.Fatalf("%d: %d", i, v)
		}
	}
}

func TestBlocksThatGoRound(t *testing.T) {
	k := fresh(t)
	lay(t, k.to, "{1}") // so that names part
	self := raw(t, k.from, mark(tupleMark, 3), 0, 0, small(1))
	sets(t, k.from, nameOf(self), 1, self)
	sets(t, k.from, nameOf(self), 2, self)
	w := k.copies(t, self)
	isBlock(t, k.to, nameOf(w), mark(tupleMark, 3), w, w, small(1))
	if _, err := k.to.Load(w); fault.Kind(err) != api.ErrFull {
		t.Error(err)
	}

	a, b := raw(t, k.from, mark(pairMark, 2), small(1), 0), raw(t, k.from, mark(pairMark, 2), small(2), 0)
	sets(t, k.from, nameOf(a), 2, b)
	sets(t, k.from, nameOf(b), 2, a)
	got := k.many(t, b, a)
	isBlock(t, k.to, nameOf(got[0]), mark(pairMark, 2), small(2), got[1])
	isBlock(t, k.to, nameOf(got[1]), mark(pairMark, 2), small(1), got[0])
	hasSize(t, k.to, got[0], 6)
}

func TestARingOfManyBlocks(t *testing.T) {
	k := fresh(t)
	const n = 1000
	first := raw(t, k.from, mark(tupleMark, 2), small(0), 0)
	last := first
	for i := 1; i < n; i++ {
		next := raw(t, k.from, mark(tupleMark, 2), small(i), 0)
		sets(t, k.from, nameOf(last), 2, next)
		last = next
	}
	sets(t, k.from, nameOf(last), 2, first)
	w := k.copies(t, first)
	at := w
	for i := range n {
		words := wordsOf(k.to, nameOf(at))
		if len(words) != 3 || words[1] != small(i) {
			t.Fatalf("%d: %v", i, words)
		}
		at = words[2]
	}
	if at != w || len(k.to.Blocks()) != n {
		t.Errorf("%d, not %d; %d blocks", at, w, len(k.to.Blocks()))
	}
}

func TestABlockOfManyWords(t *testing.T) {
	k := fresh(t)
	words := []uint64{mark(tupleMark, far)}
	item := lay(t, k.from, "[<<1>>]")
	for range far {
		words = append(words, item)
	}
	w := raw(t, k.from, words...)
	got := k.many(t, item, w)
	if len(k.to.Blocks()) != 3 {
		t.Fatalf("%v", k.to.Blocks())
	}
	for i := range far {
		words[1+i] = got[0]
	}
	isBlock(t, k.to, nameOf(got[1]), words...)
	k.hasCount(t, 0, 2)
}

// Marks that tell of more words than there are take no longer than others.
func TestManyMarksThatTellOfTooMuch(t *testing.T) {
	k := fresh(t)
	form := func(i int, behind uint64) []uint64 { return []uint64{mark(tupleMark, api.MaxWords), behind} }
	w := chain(t, k.from, form)
	got, err := copy.Copy(k.to, k.from, w)
	if err != nil {
		t.Fatal(err)
	}
	isChain(t, k.to, got, form)
}
