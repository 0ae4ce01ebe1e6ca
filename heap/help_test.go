package heap_test

import (
	"bytes"
	"errors"
	"reflect"
	"slices"
	"strconv"
	"testing"

	"troupe/api"
	"troupe/binary"
	"troupe/fault"
	"troupe/heap"
	"troupe/tree"
	"troupe/word"
)

const (
	tupleMark  = 1
	pairMark   = 2
	numberMark = 3
	binaryMark = 4

	nilWord = 4
)

func num(n int64) api.Term            { return api.Term{Kind: api.Int, N: n} }
func atom(s string) api.Term          { return api.Term{Kind: api.Atom, Name: s} }
func ref(n int64) api.Term            { return api.Term{Kind: api.Ref, N: n} }
func pid(n int64) api.Term            { return api.Term{Kind: api.Pid, N: n} }
func empty() api.Term                 { return api.Term{Kind: api.Nil} }
func tup(items ...api.Term) api.Term  { return api.Term{Kind: api.Tuple, Items: items} }
func list(items ...api.Term) api.Term { return api.Term{Kind: api.List, Items: items} }
func bin(s string) api.Term           { return api.Term{Kind: api.Bin, Bytes: []byte(s)} }

// ending is a list that ends with a rest.
func ending(rest api.Term, items ...api.Term) api.Term {
	return api.Term{Kind: api.List, Items: items, Rest: []api.Term{rest}}
}

// big is a number that is none of the small ones.
func big(n int64) api.Term { return num(1<<60 + n) }

// deep is a term in so many tuples.
func deep(n int, t api.Term) api.Term {
	for range n {
		t = tup(t)
	}
	return t
}

// many are so many numbers.
func many(n int) []api.Term {
	var items []api.Term
	for i := range n {
		items = append(items, num(int64(i)))
	}
	return items
}

// same tells whether two terms are the same in each field; nil and empty lists are one.
func same(a, b api.Term) bool {
	return a.Kind == b.Kind && a.N == b.N && a.Name == b.Name && bytes.Equal(a.Bytes, b.Bytes) &&
		slices.EqualFunc(a.Items, b.Items, same) && slices.EqualFunc(a.Rest, b.Rest, same)
}

// term is the term of a text.
func term(t *testing.T, s string) api.Term {
	t.Helper()
	x, err := tree.Parse(s)
	if err != nil {
		t.Fatalf("%s: %v", s, err)
	}
	return x
}

func small(n int64) uint64      { return uint64(n) << 3 }
func atomWord(n int) uint64     { return uint64(n)<<3 | 1 }
func block(p int) uint64        { return uint64(p)<<3 | 5 }
func handleWord(n int) uint64   { return uint64(n)<<3 | 6 }
func mark(kind, n int) uint64   { return uint64(n)<<6 | uint64(kind)<<3 | 7 }
func nameOf(w uint64) (p int)   { return int(w >> 3) }
func isSmall(w uint64) (r bool) { return w&7 != 5 }

// kit is a heap, and what was handed to it.
type kit struct {
	*heap.Heap
	atoms *word.Atoms
	bins  *binary.Heap
}

// sized is an empty heap beside others: with these atoms and binaries.
func sized(t *testing.T, size, quota int, a *word.Atoms, b *binary.Heap) kit {
	t.Helper()
	h, err := heap.New(size, quota, a, b)
	if err != nil || h == nil {
		t.Fatalf("New(%d, %d): %v", size, quota, err)
	}
	k := kit{h, a, b}
	k.isEmpty(t)
	return k
}

// bins are no binaries yet.
func bins(t *testing.T, slots, room int) *binary.Heap {
	t.Helper()
	b, err := binary.New(slots, room)
	if err != nil {
		t.Fatal(err)
	}
	return b
}

// fresh is an empty heap of its own, with much room.
func fresh(t *testing.T) kit {
	t.Helper()
	return sized(t, 4096, 4096, word.NewAtoms(), bins(t, 64, 1000))
}

// roomy is one with as much room as may be.
func roomy(t *testing.T) kit {
	t.Helper()
	return sized(t, api.MaxWords, api.MaxWords, word.NewAtoms(), bins(t, api.MaxHandles, api.MaxWords))
}

// isEmpty tells a heap in which nothing is laid or held.
func (k kit) isEmpty(t *testing.T) {
	t.Helper()
	if k.Used() != 0 || k.Top() != 0 || len(k.Blocks()) != 0 || len(k.Held()) != 0 {
		t.Fatalf("not empty: %d used, top %d, blocks %v, held %v", k.Used(), k.Top(), k.Blocks(), k.Held())
	}
}

// stores lays a term that has room.
func (k kit) stores(t *testing.T, x api.Term) uint64 {
	t.Helper()
	w, err := k.Store(x)
	if err != nil {
		t.Fatalf("Store: %v", err)
	}
	return w
}

// text lays the term of a text.
func (k kit) text(t *testing.T, s string) uint64 {
	t.Helper()
	return k.stores(t, term(t, s))
}

// loads asks for the term of a word.
func (k kit) loads(t *testing.T, w uint64, want api.Term) {
	t.Helper()
	if x, err := k.Load(w); err != nil || !same(x, want) {
		t.Fatalf("Load(%d): %v: not the term that it should be", w, err)
	}
}

// noLoad asks for the term of a word that has none. (Its kind is what counts.)
func (k kit) noLoad(t *testing.T, w uint64, kind api.Errno) {
	t.Helper()
	before := k.state()
	x, err := k.Load(w)
	var f *api.Fault
	if !same(x, api.Term{}) || !errors.As(err, &f) || err != error(f) || f.Op != "load" || f.N != int(w&7) || fault.Kind(err) != kind {
		t.Fatalf("Load(%d): %+v, %v: not the zero Term and a Fault load of kind %v", w, x, err, kind)
	}
	k.isAs(t, before)
}

// raw takes a block, and writes words to it.
func (k kit) raw(t *testing.T, words ...uint64) int {
	t.Helper()
	p, err := k.Alloc(len(words))
	if err != nil {
		t.Fatal(err)
	}
	for i, w := range words {
		k.sets(t, p, i, w)
	}
	return p
}

// sets writes a word of a block.
func (k kit) sets(t *testing.T, p, i int, w uint64) {
	t.Helper()
	if err := k.Set(p, i, w); err != nil {
		t.Fatal(err)
	}
}

// puts is the handle of new bytes, which nobody's block holds.
func (k kit) puts(t *testing.T, s string) int {
	t.Helper()
	n, err := k.bins.Put([]byte(s))
	if err != nil {
		t.Fatal(err)
	}
	return n
}

// words are the words of a block.
func (k kit) words(p int) []uint64 {
	var words []uint64
	n, _ := k.Len(p)
	for i := range n {
		w, _ := k.Get(p, i)
		words = append(words, w)
	}
	return words
}

// isBlock asks for all words of a block.
func (k kit) isBlock(t *testing.T, p int, want ...uint64) {
	t.Helper()
	if got := k.words(p); !slices.Equal(got, want) {
		t.Fatalf("block %d: %v, not %v", p, got, want)
	}
}

// hasBlocks asks for the names of all blocks.
func (k kit) hasBlocks(t *testing.T, want ...int) {
	t.Helper()
	if got := k.Blocks(); !slices.Equal(got, want) {
		t.Fatalf("blocks %v, not %v", got, want)
	}
}

// hasCount asks how often a handle is held.
func (k kit) hasCount(t *testing.T, handle, want int) {
	t.Helper()
	if n, err := k.bins.Count(handle); n != want || err != nil {
		t.Fatalf("handle %d is held %d times, not %d: %v", handle, n, want, err)
	}
}

// isGone asks for a handle that nobody holds any more.
func (k kit) isGone(t *testing.T, handle int) {
	t.Helper()
	if _, err := k.bins.Count(handle); fault.Kind(err) != api.ErrStale {
		t.Fatalf("handle %d is there: %v", handle, err)
	}
}

// holds holds a word in the slot that must be given.
func (k kit) holds(t *testing.T, w uint64, want int) {
	t.Helper()
	if slot := k.Hold(w); slot != want {
		t.Fatalf("Hold(%d): slot %d, not %d", w, slot, want)
	}
}

// hasHeld asks for all words that are held.
func (k kit) hasHeld(t *testing.T, want ...uint64) {
	t.Helper()
	if got := k.Held(); !slices.Equal(got, want) {
		t.Fatalf("held: %v, not %v", got, want)
	}
}

// hasWords asks for the words of what a word reaches.
func (k kit) hasWords(t *testing.T, w uint64, want int) {
	t.Helper()
	if n, err := k.Words(w); n != want || err != nil {
		t.Fatalf("Words(%d): %d, not %d: %v", w, n, want, err)
	}
}

// collects asks how many blocks a collection gives back.
func (k kit) collects(t *testing.T, want int, more ...uint64) {
	t.Helper()
	if n := k.Collect(more...); n != want {
		t.Fatalf("Collect: %d, not %d", n, want)
	}
}

// state is what can be told of a heap and its binaries.
type state struct {
	used    int
	blocks  []int
	words   [][]uint64
	held    []uint64
	bytes   int
	handles []int
	counts  []int
}

func (k kit) state() state {
	s := state{used: k.Used(), blocks: k.Blocks(), held: k.Held(), bytes: k.bins.Used(), handles: k.bins.Handles()}
	for _, p := range s.blocks {
		s.words = append(s.words, k.words(p))
	}
	for _, n := range s.handles {
		count, _ := k.bins.Count(n)
		s.counts = append(s.counts, count)
	}
	return s
}

// isAs asks whether a heap and its binaries are as they were.
func (k kit) isAs(t *testing.T, was state) {
	t.Helper()
	if is := k.state(); !reflect.DeepEqual(is, was) {
		t.Fatalf("it is %+v, and was %+v", is, was)
	}
}

// link is one Fault of a chain.
type link struct {
	op string
	n  int
}

// noStore lays a term that is refused: with these Faults in a Fault "store", around this root.
func (k kit) noStore(t *testing.T, x api.Term, root api.Errno, links ...link) {
	t.Helper()
	before := k.state()
	w, err := k.Store(x)
	if w != 0 {
		t.Fatalf("the word %d", w)
	}
	refused(t, err, root, append([]link{{"store", 0}}, links...)...)
	k.isAs(t, before)
}

// noView asks for a part that is refused.
func (k kit) noView(t *testing.T, w uint64, from, n int, root api.Errno, links ...link) {
	t.Helper()
	before := k.state()
	part, err := k.View(w, from, n)
	if part != 0 {
		t.Fatalf("View(%d, %d, %d): the word %d", w, from, n, part)
	}
	refused(t, err, root, append([]link{{"view", 0}}, links...)...)
	k.isAs(t, before)
}

// refused asks for a chain: these Faults, the outermost first, around this root.
func refused(t *testing.T, err error, root api.Errno, links ...link) {
	t.Helper()
	whole := err
	for _, l := range links {
		var f *api.Fault
		if !errors.As(err, &f) || err != error(f) || f.Op != l.op || f.N != l.n {
			t.Fatalf("%v: no Fault %q of %d there", whole, l.op, l.n)
		}
		err = f.Err
	}
	if err != error(root) || fault.Kind(whole) != root {
		t.Fatalf("%v: the root is not %v", whole, root)
	}
}

// fill gives the table so many atoms.
func fill(t *testing.T, a *word.Atoms, n int) {
	t.Helper()
	for i := a.Len(); i < n; i++ {
		if _, err := a.Number("filled" + strconv.Itoa(i)); err != nil {
			t.Fatal(err)
		}
	}
}
