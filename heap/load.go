package heap

import (
	"troupe/api"
	"troupe/fault"
	"troupe/word"
)

// loading is a Load that is under way.
type loading struct {
	heap  *Heap
	parts int // so far, each byte one too
}

// Load is a word's term.
func (h *Heap) Load(w uint64) (api.Term, error) {
	l := loading{heap: h}
	t, err := l.term(w, 1)
	if err != nil {
		return api.Term{}, fault.At("load", int(w&low), err)
	}
	return t, nil
}

// meet counts parts, and tells whether they are too many. Blocks that go round come to an end by it.
func (l *loading) meet(parts int) error {
	l.parts += parts
	if l.parts > api.MaxTerms {
		return api.ErrFull
	}
	return nil
}

// term is the term of a word so deep. (It calls itself no deeper than a term may be.)
func (l *loading) term(w uint64, depth int) (api.Term, error) {
	if depth > api.MaxDepth {
		return api.Term{}, api.ErrFull
	}
	if err := l.meet(1); err != nil {
		return api.Term{}, err
	}
	t, ok, err := word.Plain(w, l.heap.atoms)
	if ok || err != nil {
		return t, fault.Trim(err, 1) // without word's own Fault
	}
	if w&low != blockTag {
		return api.Term{}, api.ErrArg
	}
	p, ok := l.heap.named(w)
	if !ok {
		return api.Term{}, api.ErrNone
	}
	switch l.heap.form(p) {
	case aTuple:
		return l.tuple(p, depth)
	case aPair:
		return l.list(p, depth)
	case aNumber:
		return api.Term{Kind: api.Int, N: int64(l.heap.read(p, 1))}, nil
	case aBinary:
		return l.binary(p)
	}
	return api.Term{}, api.ErrArg
}

// tuple is the tuple of a block.
func (l *loading) tuple(p, depth int) (api.Term, error) {
	t := api.Term{Kind: api.Tuple}
	words, _ := l.heap.Len(p)
	for i := 1; i < words; i++ {
		item, err := l.term(l.heap.read(p, i), depth+1)
		if err != nil {
			return api.Term{}, err
		}
		t.Items = append(t.Items, item)
	}
	return t, nil
}

// list is the list that begins with a pair.
func (l *loading) list(p, depth int) (api.Term, error) {
	t := api.Term{Kind: api.List}
	for {
		item, err := l.term(l.heap.read(p, 1), depth+1)
		if err != nil {
			return api.Term{}, err
		}
		t.Items = append(t.Items, item)
		behind := l.heap.read(p, 2)
		if behind == nilWord {
			return t, nil
		}
		next, ok := l.heap.named(behind)
		if ok && l.heap.form(next) == aPair {
			p = next
			continue
		}
		rest, err := l.term(behind, depth+1)
		if err != nil {
			return api.Term{}, err
		}
		t.Rest = []api.Term{rest}
		return t, nil
	}
}

// binary is the binary of a block.
func (l *loading) binary(p int) (api.Term, error) {
	b, err := l.heap.bytes(p)
	if err != nil {
		return api.Term{}, err
	}
	if err := l.meet(len(b)); err != nil {
		return api.Term{}, err
	}
	return api.Term{Kind: api.Bin, Bytes: b}, nil
}

// View is a part of a binary.
func (h *Heap) View(w uint64, from, n int) (uint64, error) {
	p, ok := h.named(w)
	if !ok {
		return 0, fault.At("view", 0, api.ErrArg)
	}
	whole, err := h.bytes(p)
	if err != nil { // a block whose handle has no such bytes is no binary
		return 0, fault.At("view", 0, api.ErrArg)
	}
	if from < 0 || n < 0 || n > len(whole)-from { // from + n may be more than an int is
		return 0, fault.At("view", 0, api.ErrIndex)
	}
	part, err := h.lay(aBinary, 1, h.read(p, 1), h.read(p, 2)+uint64(from), uint64(n))
	if err != nil {
		return 0, fault.At("view", 0, err)
	}
	handle, _ := h.handle(p)
	h.binaries.Keep(handle)
	return part, nil
}
