package copy_test

import (
	"maps"
	"math/rand"
	"slices"
	"testing"

	"troupe/api"
	"troupe/copy"
	"troupe/fault"
	"troupe/heap"
	"troupe/tree"
	"troupe/word"
)

// slow is Many as the chapter's words tell it, with nothing made quick: what it answers, or which kind of error. (Of a refusal it tells no more; what it laid then stays.)
func (k kit) slow(ws []uint64) ([]uint64, api.Errno) {
	there := func(w uint64) bool { return w&7 == 5 && slices.Contains(k.from.Blocks(), nameOf(w)) }
	for _, w := range ws {
		if w&7 == 5 && !there(w) {
			return nil, api.ErrNone
		}
	}
	where := map[uint64]uint64{}
	queue := slices.Clone(ws)
	for len(queue) > 0 {
		w := queue[0]
		queue = queue[1:]
		if _, met := where[w]; met || !there(w) {
			continue
		}
		words := wordsOf(k.from, nameOf(w))
		p, err := k.to.Alloc(len(words))
		if err != nil {
			return nil, api.ErrFull
		}
		where[w] = block(p)
		if len(words) > 0 {
			_, n, _ := word.Marked(words[0])
			queue = append(queue, words[1:1+min(n, len(words)-1)]...)
		}
	}
	for w, to := range where {
		words := wordsOf(k.from, nameOf(w))
		looked := 0
		if len(words) > 0 {
			_, looked, _ = word.Marked(words[0])
		}
		for i, v := range words {
			if at, ok := where[v]; ok && 1 <= i && i <= looked {
				v = at
			}
			k.to.Set(nameOf(to), i, v)
		}
		if len(words) == 4 && words[0] == mark(binaryMark, 1) && words[1]&7 == 6 {
			k.bins.Keep(nameOf(words[1]))
		}
	}
	copies := slices.Clone(ws)
	for i, w := range ws {
		if to, ok := where[w]; ok {
			copies[i] = to
		}
	}
	return copies, api.OK
}

// random is a term's text at random, at most so deep.
func random(r *rand.Rand, depth int) string {
	plain := []string{"0", "-7", "a", "b", "[]", "#p3", "#r9", "1152921504606846976", "<<>>", "<<1>>", "<<2,3,4>>"}
	if depth == 1 || r.Intn(3) == 0 {
		return plain[r.Intn(len(plain))]
	}
	items := random(r, depth-1)
	for range r.Intn(4) {
		items += "," + random(r, depth-1)
	}
	switch r.Intn(3) {
	case 0:
		return "[" + items + "|" + plain[r.Intn(4)] + "]"
	case 1:
		return "[" + items + "]"
	}
	return "{" + items + "}"
}

// some is one of the words, or any word at all.
func some(r *rand.Rand, words []uint64) uint64 {
	switch {
	case len(words) > 0 && r.Intn(4) > 0:
		return words[r.Intn(len(words))]
	case r.Intn(2) == 0:
		return uint64(r.Intn(80))<<3 | uint64(r.Intn(8))
	}
	return r.Uint64() >> r.Intn(64)
}

// litter lays terms, parts of binaries, blocks of any words, and gives some back; it answers the words of what it laid.
func litter(t *testing.T, r *rand.Rand, h *heap.Heap, wild bool, steps int) []uint64 {
	t.Helper()
	var words []uint64
	for range steps {
		switch n := r.Intn(12); {
		case n < 5:
			if w, err := h.Store(term(t, random(r, 1+r.Intn(4)))); err == nil {
				words = append(words, w)
			}
		case n < 7:
			if w, err := h.View(some(r, words), 0, r.Intn(2)); err == nil {
				words = append(words, w)
			}
		case n < 9:
			h.Collect(some(r, words), some(r, words), some(r, words), some(r, words))
		case n < 11:
			form := []uint64{mark(tupleMark, 2), some(r, words), some(r, words)} // so that parts are shared
			if wild && n == 10 {
				form = append(form, some(r, words), some(r, words))[:r.Intn(6)]
			}
			if wild && n == 10 && len(form) > 0 {
				form[0] = mark(1+r.Intn(4), r.Intn(5))
			}
			if p, err := h.Alloc(len(form)); err == nil {
				for i, w := range form {
					sets(t, h, p, i, w)
				}
				words = append(words, block(p))
			}
		default:
			if blocks := h.Blocks(); wild && len(blocks) > 0 {
				p := blocks[r.Intn(len(blocks))]
				n, _ := h.Len(p)
				h.Set(p, r.Intn(n+1), some(r, words))
			}
		}
	}
	return words
}

// twins are two kits that went through the same, and words of what lies in their heaps to copy from.
func twins(t *testing.T, seed int64) (one, two kit, words []uint64) {
	t.Helper()
	for _, k := range []*kit{&one, &two} {
		r := rand.New(rand.NewSource(seed))
		size := 30 + r.Intn(150)
		*k = sized(t, size, size-r.Intn(30))
		words = litter(t, r, k.from, seed%2 == 0, 40)
		litter(t, r, k.to, seed%3 == 0, r.Intn(15))
	}
	return one, two, words
}

// hasCounts asks how often each handle is held.
func (k kit) hasCounts(t *testing.T, want map[int]int) {
	t.Helper()
	if is := k.held(); !maps.Equal(is, want) {
		t.Fatalf("handles are held %v times, not %v", is, want)
	}
}

// sameTerms asks whether copies are the same terms, of as many words, where the words have terms.
func (k kit) sameTerms(t *testing.T, ws, copies []uint64) {
	t.Helper()
	for i, w := range ws {
		x, err := k.from.Load(w)
		if err != nil {
			continue
		}
		y, err := k.to.Load(copies[i])
		if err != nil || !tree.Equal(x, y) {
			t.Fatalf("%d: %v, not %v: %v", w, y, x, err)
		}
		n, err := copy.Size(k.from, w)
		if err != nil {
			t.Fatal(err)
		}
		hasSize(t, k.to, copies[i], n)
	}
}

// P7.1 to P7.3, on many heaps: each answer is what the chapter's words say.
func TestCopiesAreAsTheModelSays(t *testing.T) {
	outcomes := map[api.Errno]int{}
	for seed := range int64(3000) {
		k, l, words := twins(t, seed)
		r := rand.New(rand.NewSource(seed))
		for range 6 {
			var ws []uint64
			for range r.Intn(4) {
				ws = append(ws, some(r, words))
			}
			to, from, counts := content(k.to), content(k.from), k.held()
			want, wrong := l.slow(ws)
			got, err := copy.Many(k.to, k.from, ws...)
			outcomes[wrong]++
			if fault.Kind(err) != wrong || !slices.Equal(got, want) {
				t.Fatalf("seed %d: Many(%v): %v, %v; not %v, %v", seed, ws, got, err, want, wrong)
			}
			from.is(t, k.from)
			if err != nil {
				to.is(t, k.to)
				k.hasCounts(t, counts)
				break // lists of free blocks may part from here on
			}
			content(l.to).is(t, k.to)
			if k.to.Top() != l.to.Top() {
				t.Fatalf("top %d, not %d", k.to.Top(), l.to.Top())
			}
			k.hasCounts(t, l.held())
			k.sameTerms(t, ws, got)
		}
	}
	if outcomes[api.OK] < 1000 || outcomes[api.ErrNone] < 100 || outcomes[api.ErrFull] < 100 {
		t.Errorf("%v", outcomes)
	}
}
