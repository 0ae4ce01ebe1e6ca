package copy_test

import (
	"errors"
	"reflect"
	"slices"
	"testing"

	"troupe/api"
	"troupe/binary"
	"troupe/copy"
	"troupe/fault"
	"troupe/heap"
	"troupe/tree"
	"troupe/word"
)

const (
	tupleMark  = 1
	pairMark   = 2
	numberMark = 3
	binaryMark = 4

	nilWord = 4
)

func small(n int) uint64      { return uint64(n) << 3 }
func block(p int) uint64      { return uint64(p)<<3 | 5 }
func handleWord(n int) uint64 { return uint64(n)<<3 | 6 }
func mark(kind, n int) uint64 { return uint64(n)<<6 | uint64(kind)<<3 | 7 }
func nameOf(w uint64) int     { return int(w >> 3) }

// kit are two heaps that share atoms and binaries.
type kit struct {
	to, from *heap.Heap
	atoms    *word.Atoms
	bins     *binary.Heap
}

func newHeap(t *testing.T, size, quota int, a *word.Atoms, b *binary.Heap) *heap.Heap {
	t.Helper()
	h, err := heap.New(size, quota, a, b)
	if err != nil {
		t.Fatal(err)
	}
	return h
}

// sized are a heap of such a size and quota to copy to, and one with much room to copy from.
func sized(t *testing.T, size, quota int) kit {
	t.Helper()
	b, err := binary.New(api.MaxHandles, api.MaxWords)
	if err != nil {
		t.Fatal(err)
	}
	a := word.NewAtoms()
	return kit{newHeap(t, size, quota, a, b), newHeap(t, api.MaxWords, api.MaxWords, a, b), a, b}
}

// fresh are two heaps with much room.
func fresh(t *testing.T) kit {
	t.Helper()
	return sized(t, api.MaxWords, api.MaxWords)
}

// term is the term of a text.
func term(t *testing.T, text string) api.Term {
	t.Helper()
	x, err := tree.Parse(text)
	if err != nil {
		t.Fatalf("%s: %v", text, err)
	}
	return x
}

// lay lays the term of a text.
func lay(t *testing.T, h *heap.Heap, text string) uint64 {
	t.Helper()
	w, err := h.Store(term(t, text))
	if err != nil {
		t.Fatalf("%s: %v", text, err)
	}
	return w
}

// raw takes a block, and writes words to it.
func raw(t *testing.T, h *heap.Heap, words ...uint64) uint64 {
	t.Helper()
	p, err := h.Alloc(len(words))
	if err != nil {
		t.Fatal(err)
	}
	for i, w := range words {
		sets(t, h, p, i, w)
	}
	return block(p)
}

func sets(t *testing.T, h *heap.Heap, p, i int, w uint64) {
	t.Helper()
	if err := h.Set(p, i, w); err != nil {
		t.Fatal(err)
	}
}

func frees(t *testing.T, h *heap.Heap, w uint64) {
	t.Helper()
	if err := h.Free(nameOf(w)); err != nil {
		t.Fatal(err)
	}
}

// view is a part of a binary.
func view(t *testing.T, h *heap.Heap, w uint64, from, n int) uint64 {
	t.Helper()
	part, err := h.View(w, from, n)
	if err != nil {
		t.Fatal(err)
	}
	return part
}

// puts is the handle of new bytes, which no block holds.
func (k kit) puts(t *testing.T, text string) int {
	t.Helper()
	n, err := k.bins.Put([]byte(text))
	if err != nil {
		t.Fatal(err)
	}
	return n
}

// wordsOf are the words of a block.
func wordsOf(h *heap.Heap, p int) []uint64 {
	var words []uint64
	n, _ := h.Len(p)
	for i := range n {
		w, _ := h.Get(p, i)
		words = append(words, w)
	}
	return words
}

// isBlock asks for all words of a block.
func isBlock(t *testing.T, h *heap.Heap, p int, want ...uint64) {
	t.Helper()
	if got := wordsOf(h, p); !slices.Equal(got, want) {
		t.Fatalf("block %d: %v, not %v", p, got, want)
	}
}

// hasBlocks asks for the names of all blocks.
func hasBlocks(t *testing.T, h *heap.Heap, want ...int) {
	t.Helper()
	if got := h.Blocks(); !slices.Equal(got, want) {
		t.Fatalf("blocks %v, not %v", got, want)
	}
}

// says asks for the text of a word's term.
func says(t *testing.T, h *heap.Heap, w uint64, want string) {
	t.Helper()
	x, err := h.Load(w)
	if err != nil {
		t.Fatalf("%s: %v", want, err)
	}
	if text, err := tree.Write(x); text != want {
		t.Fatalf("%s, not %s: %v", text, want, err)
	}
}

// hasCount asks how often a handle is held.
func (k kit) hasCount(t *testing.T, handle, want int) {
	t.Helper()
	if n, err := k.bins.Count(handle); n != want || err != nil {
		t.Fatalf("handle %d is held %d times, not %d: %v", handle, n, want, err)
	}
}

// hasHandles asks for all handles that are held.
func (k kit) hasHandles(t *testing.T, want ...int) {
	t.Helper()
	if got := k.bins.Handles(); !slices.Equal(got, want) {
		t.Fatalf("handles %v, not %v", got, want)
	}
}

// copies copies a word for which there is room.
func (k kit) copies(t *testing.T, w uint64) uint64 {
	t.Helper()
	from := content(k.from)
	got, err := copy.Copy(k.to, k.from, w)
	if err != nil {
		t.Fatalf("Copy(%d): %v", w, err)
	}
	from.is(t, k.from)
	return got
}

// copiesText lays a text's term, copies it, and asks for the copy's text.
func (k kit) copiesText(t *testing.T, text string) uint64 {
	t.Helper()
	w := k.copies(t, lay(t, k.from, text))
	says(t, k.to, w, text)
	return w
}

// many copies words for which there is room.
func (k kit) many(t *testing.T, ws ...uint64) []uint64 {
	t.Helper()
	from := content(k.from)
	got, err := copy.Many(k.to, k.from, ws...)
	if err != nil || len(got) != len(ws) {
		t.Fatalf("Many(%v): %v, %v", ws, got, err)
	}
	from.is(t, k.from)
	return got
}

// link is one Fault of a chain.
type link struct {
	op string
	n  int
}

// refuses copies words that are refused, by Many and, if it is one, by Copy: with these Faults in a Fault "copy", around this root.
func (k kit) refuses(t *testing.T, ws []uint64, root api.Errno, links ...link) {
	t.Helper()
	to, from, bins := content(k.to), content(k.from), k.held()
	links = append([]link{{"copy", 0}}, links...)
	got, err := copy.Many(k.to, k.from, ws...)
	if len(got) != 0 {
		t.Fatalf("Many(%v): %v", ws, got)
	}
	refused(t, err, root, links...)
	if len(ws) == 1 {
		w, err := copy.Copy(k.to, k.from, ws[0])
		if w != 0 {
			t.Fatalf("Copy(%d): %d", ws[0], w)
		}
		refused(t, err, root, links...)
	}
	to.is(t, k.to)
	from.is(t, k.from)
	k.hasCounts(t, bins)
}

// refused asks for a chain: these Faults, the outermost first, around this root.
func refused(t *testing.T, err error, root api.Errno, links ...link) {
	t.Helper()
	whole := err
	for _, l := range links {
		var f *api.Fault
		if !errors.As(err, &f) || err != error(f) || f.Op != l.op || f.N != l.n {
			t.Fatalf("%v: no Fault %q of %d there", whole, l.op, l.n)
		}
		err = f.Err
	}
	if err != error(root) || fault.Kind(whole) != root {
		t.Fatalf("%v: the root is not %v", whole, root)
	}
}

// hasSize asks for a word's size.
func hasSize(t *testing.T, h *heap.Heap, w uint64, want int) {
	t.Helper()
	if n, err := copy.Size(h, w); n != want || err != nil {
		t.Fatalf("Size(%d): %d, not %d: %v", w, n, want, err)
	}
}

// held is how often each handle is held, with the bytes of all as that of -1.
func (k kit) held() map[int]int {
	counts := map[int]int{-1: k.bins.Used()}
	for _, handle := range k.bins.Handles() {
		counts[handle], _ = k.bins.Count(handle)
	}
	return counts
}

// inside is what can be told of a heap that a refused copy must leave as it is.
type inside struct {
	used   int
	blocks []int
	words  [][]uint64
	held   []uint64
}

func content(h *heap.Heap) inside {
	c := inside{used: h.Used(), blocks: h.Blocks(), held: h.Held()}
	for _, p := range c.blocks {
		c.words = append(c.words, wordsOf(h, p))
	}
	return c
}

func (c inside) is(t *testing.T, h *heap.Heap) {
	t.Helper()
	if is := content(h); !reflect.DeepEqual(is, c) {
		t.Fatalf("it is %+v, and was %+v", is, c)
	}
}
