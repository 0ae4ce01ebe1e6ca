package heap_test

import (
	"math/rand"
	"slices"
	"testing"

	"troupe/api"
	"troupe/arena"
	"troupe/fault"
	"troupe/tree"
	"troupe/word"
)

// model is a heap as the chapter's words tell it, with an arena and binaries of its own and nothing made quick.
type model struct {
	kit    // its embedded heap is nil: the model has places in its stead
	places *arena.Arena
	held   map[int]uint64
}

// names are those of all atoms: both tables have them from the beginning.
func names() []string { return []string{"a", "b", "ok", "it's"} }

func table(t *testing.T) *word.Atoms {
	a := word.NewAtoms()
	for _, s := range names() {
		if _, err := a.Number(s); err != nil {
			t.Fatal(err)
		}
	}
	return a
}

func newModel(t *testing.T, size, quota, slots, room int) *model {
	t.Helper()
	a, err := arena.New(size, quota)
	if err != nil {
		t.Fatal(err)
	}
	return &model{kit: kit{atoms: table(t), bins: bins(t, slots, room)}, places: a, held: map[int]uint64{}}
}

// lay takes a block and writes it; undo is what gives it back.
func (m *model) lay(undo *[]func(), words ...uint64) (uint64, error) {
	p, err := m.places.Alloc(len(words))
	if err != nil {
		return 0, err
	}
	for i, w := range words {
		m.places.Set(p, i, w)
	}
	*undo = append(*undo, func() { m.places.Free(p) })
	return block(p), nil
}

func (m *model) put(undo *[]func(), x api.Term) (uint64, error) {
	switch x.Kind {
	case api.Tuple:
		words := []uint64{mark(tupleMark, len(x.Items))}
		for _, item := range x.Items {
			w, err := m.put(undo, item)
			if err != nil {
				return 0, err
			}
			words = append(words, w)
		}
		return m.lay(undo, words...)
	case api.List:
		behind := term1(x)
		w, err := m.put(undo, behind)
		for i := len(x.Items) - 1; i >= 0 && err == nil; i-- {
			var first uint64
			if first, err = m.put(undo, x.Items[i]); err == nil {
				w, err = m.lay(undo, mark(pairMark, 2), first, w)
			}
		}
		return w, err
	case api.Bin:
		n, err := m.bins.Put(x.Bytes)
		if err != nil {
			return 0, err
		}
		*undo = append(*undo, func() { m.bins.Drop(n) })
		return m.lay(undo, mark(binaryMark, 1), handleWord(n), 0, uint64(len(x.Bytes)))
	case api.Int:
		if x.N < -1<<60 || x.N >= 1<<60 {
			return m.lay(undo, mark(numberMark, 0), uint64(x.N))
		}
	}
	w, _, err := word.Small(x, m.atoms)
	return w, err
}

// term1 is with what a list ends.
func term1(x api.Term) api.Term {
	if len(x.Rest) > 0 {
		return x.Rest[0]
	}
	return empty()
}

func (m *model) store(x api.Term) (uint64, error) {
	var undo []func()
	w, err := m.put(&undo, x)
	if err != nil {
		for _, back := range slices.Backward(undo) {
			back()
		}
		return 0, err
	}
	return w, nil
}

// named is the block that a word names.
func (m *model) named(w uint64) (int, bool) {
	return int(w >> 3), w&7 == 5 && slices.Contains(m.places.Blocks(), int(w>>3))
}

func (m *model) reach(w uint64, reached map[int]bool) {
	p, ok := m.named(w)
	if !ok || reached[p] {
		return
	}
	reached[p] = true
	first, _ := m.places.Get(p, 0)
	_, n, _ := word.Marked(first)
	for i := range n {
		next, _ := m.places.Get(p, 1+i)
		m.reach(next, reached)
	}
}

func (m *model) words(w uint64) int {
	reached, sum := map[int]bool{}, 0
	m.reach(w, reached)
	for p := range reached {
		n, _ := m.places.Len(p)
		sum += n
	}
	return sum
}

func (m *model) collect(more []uint64) int {
	reached, n := map[int]bool{}, 0
	for _, w := range m.held {
		m.reach(w, reached)
	}
	for _, w := range more {
		m.reach(w, reached)
	}
	for _, p := range m.places.Blocks() {
		if reached[p] {
			continue
		}
		n++
		if first, _ := m.places.Get(p, 0); first == mark(binaryMark, 1) {
			w, _ := m.places.Get(p, 1)
			m.bins.Drop(int(w >> 3))
		}
		m.places.Free(p)
	}
	return n
}

func (m *model) view(w uint64, from, n int) (uint64, error) {
	p, ok := m.named(w)
	if !ok {
		return 0, api.ErrArg
	}
	first, _ := m.places.Get(p, 0)
	if first != mark(binaryMark, 1) {
		return 0, api.ErrArg
	}
	handle, _ := m.places.Get(p, 1)
	begin, _ := m.places.Get(p, 2)
	length, _ := m.places.Get(p, 3)
	if from < 0 || n < 0 || from+n > int(length) {
		return 0, api.ErrIndex
	}
	var undo []func()
	part, err := m.lay(&undo, first, handle, begin+uint64(from), uint64(n))
	if err == nil {
		m.bins.Keep(int(handle >> 3))
	}
	return part, err
}

// isAs asks whether a heap and its binaries are as the model's.
func (m *model) isAs(t *testing.T, k kit) {
	t.Helper()
	var held []uint64
	for slot := range 100 {
		if w, ok := m.held[slot]; ok {
			held = append(held, w)
		}
	}
	k.hasHeld(t, held...)
	k.hasBlocks(t, m.places.Blocks()...)
	if k.Used() != m.places.Used() || k.Top() != m.places.Top() || k.bins.Used() != m.bins.Used() || !slices.Equal(k.bins.Handles(), m.bins.Handles()) {
		t.Fatalf("%d used, top %d, %d bytes, handles %v; not %d, %d, %d, %v", k.Used(), k.Top(), k.bins.Used(), k.bins.Handles(), m.places.Used(), m.places.Top(), m.bins.Used(), m.bins.Handles())
	}
	counts := map[int]int{}
	for _, p := range k.Blocks() {
		var words []uint64
		n, _ := m.places.Len(p)
		for i := range n {
			w, _ := m.places.Get(p, i)
			words = append(words, w)
		}
		k.isBlock(t, p, words...)
		if words[0] == mark(binaryMark, 1) {
			counts[int(words[1]>>3)]++
		}
	}
	for _, n := range k.bins.Handles() {
		k.hasCount(t, n, counts[n])
	}
	if len(counts) != len(k.bins.Handles()) {
		t.Fatalf("handles %v, not those of %v", k.bins.Handles(), counts)
	}
}

// random is a term at random, at most so deep.
func random(r *rand.Rand, depth int) api.Term {
	kinds := 9
	if depth == 1 {
		kinds = 6
	}
	items := func(least int) []api.Term {
		var list []api.Term
		for range least + r.Intn(4) {
			list = append(list, random(r, depth-1))
		}
		return list
	}
	switch r.Intn(kinds) {
	case 0:
		return num(int64(r.Uint64()) >> r.Intn(64))
	case 1:
		return atom(names()[r.Intn(len(names()))])
	case 2:
		return ref(r.Int63n(1 << 60))
	case 3:
		return pid(r.Int63n(100))
	case 4:
		return empty()
	case 5:
		return bin(string(make([]byte, r.Intn(7))))
	case 6:
		return tup(items(0)...)
	case 7:
		return list(items(1)...)
	}
	x := ending(random(r, depth-1), items(1)...)
	if rest := x.Rest[0].Kind; rest == api.List || rest == api.Nil {
		x.Rest = nil
	}
	return x
}

// pair is a heap and its model, with the words that they have told, and terms of those that are held.
type pair struct {
	kit
	m     *model
	words []uint64
	terms map[int]api.Term // by slot
}

// some is a word that was told, or one that never was.
func (p *pair) some(r *rand.Rand) uint64 {
	if len(p.words) == 0 || r.Intn(8) == 0 {
		return r.Uint64() >> r.Intn(64)
	}
	return p.words[len(p.words)-1-r.Intn(min(len(p.words), 12))]
}

func (p *pair) store(t *testing.T, r *rand.Rand) {
	t.Helper()
	x := random(r, 1+r.Intn(4))
	want, wrong := p.m.store(x)
	w, err := p.Store(x)
	if w != want || (err == nil) != (wrong == nil) || fault.Kind(err) != fault.Kind(wrong) || err != nil && err.Error() != "store: "+wrong.Error() {
		t.Fatalf("Store: %d, %v; not %d, %v", w, err, want, wrong)
	}
	if err != nil {
		return
	}
	p.loads(t, w, x)
	p.hasWords(t, w, tree.Words(x))
	p.words = append(p.words, w)
	if r.Intn(3) == 0 {
		slot := 0
		for _, ok := p.m.held[slot]; ok; _, ok = p.m.held[slot] {
			slot++
		}
		p.holds(t, w, slot)
		p.m.held[slot], p.terms[slot] = w, x
	}
}

func (p *pair) view(t *testing.T, r *rand.Rand) {
	t.Helper()
	w, from, n := p.some(r), r.Intn(8)-1, r.Intn(8)-1
	want, wrong := p.m.view(w, from, n)
	part, err := p.View(w, from, n)
	if part != want || fault.Kind(err) != fault.Kind(wrong) || err != nil && err.Error() != "view: "+wrong.Error() {
		t.Fatalf("View(%d, %d, %d): %d, %v; not %d, %v", w, from, n, part, err, want, wrong)
	}
	if err == nil {
		p.words = append(p.words, part)
	}
}

func (p *pair) slot(t *testing.T, r *rand.Rand) {
	t.Helper()
	slot, w := r.Intn(6), p.some(r)
	_, ok := p.m.held[slot]
	if r.Intn(2) == 0 {
		if err := p.Let(slot); (err == nil) != ok {
			t.Fatalf("Let(%d): %v", slot, err)
		}
		delete(p.m.held, slot)
		delete(p.terms, slot)
		return
	}
	if err := p.Swap(slot, w); (err == nil) != ok {
		t.Fatalf("Swap(%d): %v", slot, err)
	}
	if ok {
		p.m.held[slot] = w
		delete(p.terms, slot)
	}
}

func (p *pair) collect(t *testing.T, r *rand.Rand) {
	t.Helper()
	var more []uint64
	for range r.Intn(3) {
		more = append(more, p.some(r))
	}
	want := p.m.collect(more)
	p.collects(t, want, more...)
	p.collects(t, 0, more...) // all that is there is reached
}

// step asks the heap and the model for one thing at random.
func (p *pair) step(t *testing.T, r *rand.Rand) {
	t.Helper()
	switch n := r.Intn(100); {
	case n < 50:
		p.store(t, r)
	case n < 65:
		p.view(t, r)
	case n < 85:
		p.slot(t, r)
	case n < 97:
		p.collect(t, r)
	case n < 99:
		if w := p.some(r); w&7 != 5 || slices.Contains(p.Blocks(), nameOf(w)) {
			p.hasWords(t, w, p.m.words(w))
		}
	default:
		p.m.held = map[int]uint64{}
		p.m.collect(nil)
		p.m.places.Clear()
		p.Drop()
		p.terms = map[int]api.Term{}
	}
}

// P6.2 to P6.8, on many heaps: each answer is what the chapter's words say.
func TestHeapsAreAsTheModelSays(t *testing.T) {
	for seed := range int64(150) {
		r := rand.New(rand.NewSource(seed))
		size := 20 + r.Intn(300)
		quota, slots, room := size-r.Intn(15), 1+r.Intn(8), r.Intn(40)
		p := &pair{m: newModel(t, size, quota, slots, room), terms: map[int]api.Term{}}
		p.kit = sized(t, size, quota, table(t), bins(t, slots, room))
		for range 150 {
			p.step(t, r)
			p.m.isAs(t, p.kit)
			for slot, x := range p.terms { // a collection turns no term that is held
				p.loads(t, p.m.held[slot], x)
			}
		}
	}
}

// P6.8

func TestLoadOfWhatWasStored(t *testing.T) {
	r := rand.New(rand.NewSource(1))
	k := roomy(t)
	for i := range 3000 {
		x := random(r, 1+i%7)
		w := k.stores(t, x)
		k.loads(t, w, x)
		k.hasWords(t, w, tree.Words(x))
		if isSmall(w) != (tree.Words(x) == 0) {
			t.Fatalf("%d: %d", i, w)
		}
		if i%50 == 0 {
			k.Collect()
		}
	}
	k.Collect()
	k.hasBlocks(t)
	if k.bins.Used() != 0 || len(k.bins.Handles()) != 0 {
		t.Error("binaries are left")
	}
}

// R4

func TestTwoHeapsWithTheSameAtomsAndBinaries(t *testing.T) {
	a, b := word.NewAtoms(), bins(t, 4, 20)
	one, two := sized(t, 64, 64, a, b), sized(t, 64, 32, a, b)
	x := tup(atom("x"), bin("one"), atom("y"))
	w := one.stores(t, x)
	two.isEmpty(t)
	y := tup(atom("y"), bin("two"), atom("z"))
	v := two.stores(t, y)
	if w != v || a.Len() != 3 {
		t.Errorf("%d, %d, %d atoms", w, v, a.Len())
	}
	one.isBlock(t, 1, mark(binaryMark, 1), handleWord(0), 0, 3)
	two.isBlock(t, 1, mark(binaryMark, 1), handleWord(1), 0, 3)
	two.isBlock(t, 9, mark(tupleMark, 3), atomWord(1), block(1), atomWord(2))
	one.loads(t, w, x)
	two.loads(t, v, y)
	one.holds(t, w, 0)
	two.holds(t, small(1), 0)
	one.hasHeld(t, w)
	two.hasHeld(t, small(1))

	if err := b.Keep(0); err != nil { // two takes what one has
		t.Fatal(err)
	}
	shared := block(two.raw(t, mark(binaryMark, 1), handleWord(0), 1, 2))
	two.loads(t, shared, bin("ne"))
	two.collects(t, 0, v, shared)
	one.Drop()
	one.isEmpty(t)
	two.hasCount(t, 0, 1)
	two.loads(t, shared, bin("ne"))
	two.loads(t, v, y)
	two.collects(t, 1, v)
	two.isGone(t, 0)
	two.hasCount(t, 1, 1)
	one.noLoad(t, w, api.ErrNone)
	if w := one.stores(t, bin("new")); w != block(1) {
		t.Errorf("%d", w)
	}
	one.isBlock(t, 1, mark(binaryMark, 1), handleWord(api.MaxHandles), 0, 3)
}

func TestOneHeapsRoomIsNotTheOthers(t *testing.T) {
	a, b := word.NewAtoms(), bins(t, 2, 5)
	one, two := sized(t, 16, 16, a, b), sized(t, 64, 64, a, b)
	one.stores(t, bin("abc"))
	one.stores(t, tup(many(6)...))
	one.noStore(t, tup(), api.ErrFull, link{"alloc", 1})
	two.stores(t, tup(many(6)...))
	two.noStore(t, bin("def"), api.ErrFull, link{"put", 3}) // but that of the binaries is
	two.stores(t, bin("de"))
	two.noStore(t, bin(""), api.ErrFull, link{"put", 0})
	one.Drop()
	two.stores(t, bin("def"))
}
