package heap_test

import (
	"math/rand"
	"testing"

	"troupe/api"
	"troupe/fault"
	"troupe/tree"
)

// anyWord is any word, most often one that may mean something.
func anyWord(r *rand.Rand, k kit) uint64 {
	switch r.Intn(8) {
	case 0:
		return r.Uint64() >> r.Intn(64)
	case 1:
		return mark(r.Intn(6), r.Intn(6))
	case 2:
		return handleWord(r.Intn(4))
	case 3:
		return nilWord
	case 4:
		return small(r.Int63n(8))
	}
	if blocks := k.Blocks(); len(blocks) > 0 {
		return block(blocks[r.Intn(len(blocks))])
	}
	return block(r.Intn(50))
}

// whatever takes blocks of any words, and turns some of those that are there.
func whatever(t *testing.T, r *rand.Rand, k kit) {
	t.Helper()
	words := []uint64{anyWord(r, k), anyWord(r, k), anyWord(r, k), anyWord(r, k), anyWord(r, k)}
	switch r.Intn(5) {
	case 0:
		words[0] = mark(tupleMark, 4)
	case 1:
		words = []uint64{mark(pairMark, 2), words[0], words[1]}
	case 2:
		words = []uint64{mark(binaryMark, 1), words[0], small(r.Int63n(2)) >> 3, words[2] >> 3}
	case 3:
		words[0], words = mark(tupleMark, 1), words[:2]
	}
	if p, err := k.Alloc(len(words)); err == nil {
		for i, w := range words {
			k.sets(t, p, i, w)
		}
	}
	if blocks := k.Blocks(); len(blocks) > 0 && r.Intn(2) == 0 {
		p := blocks[r.Intn(len(blocks))]
		n, _ := k.Len(p)
		k.sets(t, p, r.Intn(n), anyWord(r, k))
	}
}

// asks asks for all that may be asked of a word.
func asks(t *testing.T, r *rand.Rand, k kit, w uint64) {
	t.Helper()
	x, err := k.Load(w)
	if err == nil && tree.Right(x) != nil {
		t.Fatalf("Load(%d): %+v may not be", w, x)
	}
	if err != nil && (!same(x, api.Term{}) || !fault.Is(err, api.ErrNone, api.ErrArg, api.ErrFull, api.ErrStale, api.ErrIndex)) {
		t.Fatalf("Load(%d): %+v, %v", w, x, err)
	}
	if n, err := k.Words(w); n < 0 || n > k.Used() || err != nil && (n != 0 || fault.Kind(err) != api.ErrNone) {
		t.Fatalf("Words(%d): %d, %v", w, n, err)
	}
	before := k.state()
	if part, err := k.View(w, r.Intn(4)-1, r.Intn(4)-1); err != nil {
		if part != 0 || !fault.Is(err, api.ErrArg, api.ErrIndex, api.ErrFull) {
			t.Fatalf("View(%d): %d, %v", w, part, err)
		}
		k.isAs(t, before)
	}
}

// R1: whatever words there are, every call ends, and none panics.
func TestAnyWordsAtAll(t *testing.T) {
	for seed := range int64(60) {
		r := rand.New(rand.NewSource(seed))
		k := sized(t, 400, 400, table(t), bins(t, 4, 20))
		for range 3 {
			k.puts(t, "abc")
		}
		for i := range 200 {
			whatever(t, r, k)
			asks(t, r, k, anyWord(r, k))
			k.Hold(anyWord(r, k))
			if i%20 == 19 {
				before := len(k.Blocks())
				more := []uint64{anyWord(r, k), anyWord(r, k)}
				if n := k.Collect(more...); n != before-len(k.Blocks()) {
					t.Fatalf("%d given back of %d, but %d are there", n, before, len(k.Blocks()))
				}
				k.collects(t, 0, more...)
				for slot := range k.Held() {
					if err := k.Let(slot); err != nil {
						t.Fatal(err)
					}
				}
			}
		}
		k.Drop()
		k.isEmpty(t)
	}
}
