package heap

import (
	"errors"
	"slices"

	"troupe/api"
	"troupe/fault"
	"troupe/tree"
	"troupe/word"
)

// laying is a Store that is under way.
type laying struct {
	heap    *Heap
	taken   []uint64       // the words of what was laid and put so far, in order
	numbers map[string]int // of the atoms that were met so far
	fresh   []string       // those of them that are new, in the order of their numbers
}

// Store lays a term.
func (h *Heap) Store(t api.Term) (uint64, error) {
	l := laying{heap: h, numbers: map[string]int{}}
	w, err := l.whole(t)
	var met *api.Fault
	if errors.As(err, &met) {
		l.giveBack()
		return 0, fault.At("store", 0, met)
	}
	l.tellNames()
	return w, nil
}

// whole lays a term, if it may be.
func (l *laying) whole(t api.Term) (uint64, error) {
	if err := tree.Right(t); err != nil {
		return 0, err
	}
	return l.term(t)
}

// term lays a term that may be. (It calls itself no deeper than such a term is.)
func (l *laying) term(t api.Term) (uint64, error) {
	switch t.Kind {
	case api.Atom:
		return l.atom(t.Name)
	case api.Tuple:
		return l.tuple(t.Items)
	case api.List:
		return l.list(t)
	case api.Bin:
		return l.binary(t.Bytes)
	}
	w, ok, err := word.Small(t, l.heap.atoms)
	if ok || err != nil {
		return w, err
	}
	return l.block(aNumber, 0, uint64(t.N))
}

// atom is an atom's word. A name that is new is only noted, with the number that the table will give it: a Store that is refused further on must leave none behind, and a table forgets none.
func (l *laying) atom(name string) (uint64, error) {
	n, ok := l.numbers[name]
	if !ok {
		n, ok = l.known(name)
	}
	if !ok {
		n = l.heap.atoms.Len() + len(l.fresh)
		if n == api.MaxAtoms {
			return 0, fault.At("atom", len(name), api.ErrFull)
		}
		l.fresh = append(l.fresh, name)
	}
	l.numbers[name] = n
	return tagged(n, atomTag), nil
}

// known is a name's number in the table, if it is there; Number would put it there.
func (l *laying) known(name string) (int, bool) {
	for n := range l.heap.atoms.Len() {
		if there, _ := l.heap.atoms.Name(n); there == name {
			return n, true
		}
	}
	return 0, false
}

// tellNames tells the table the names that were noted; it numbers them in the order in which it is asked.
func (l *laying) tellNames() {
	for _, name := range l.fresh {
		l.heap.atoms.Number(name)
	}
}

// tuple lays a tuple.
func (l *laying) tuple(items []api.Term) (uint64, error) {
	words := make([]uint64, len(items))
	for i, item := range items {
		w, err := l.term(item)
		if err != nil {
			return 0, err
		}
		words[i] = w
	}
	return l.block(aTuple, len(words), words...)
}

// list lays a list from its end on, as each pair names the one behind it.
func (l *laying) list(t api.Term) (uint64, error) {
	behind := uint64(nilWord)
	for _, rest := range t.Rest { // one at most
		w, err := l.term(rest)
		if err != nil {
			return 0, err
		}
		behind = w
	}
	for _, item := range slices.Backward(t.Items) {
		w, err := l.term(item)
		if err != nil {
			return 0, err
		}
		if behind, err = l.block(aPair, 2, w, behind); err != nil {
			return 0, err
		}
	}
	return behind, nil
}

// binary puts a binary, and lays its block.
func (l *laying) binary(b []byte) (uint64, error) {
	handle, err := l.heap.binaries.Put(b)
	if err != nil {
		return 0, err
	}
	w := tagged(handle, handleTag)
	l.taken = append(l.taken, w)
	return l.block(aBinary, 1, w, 0, uint64(len(b)))
}

// block lays a block.
func (l *laying) block(kind, n int, words ...uint64) (uint64, error) {
	w, err := l.heap.lay(kind, n, words...)
	if err == nil {
		l.taken = append(l.taken, w)
	}
	return w, err
}

// giveBack gives back what was laid and put, the last one first.
func (l *laying) giveBack() {
	for _, w := range slices.Backward(l.taken) {
		n := int(w >> width)
		if w&low == handleTag {
			l.heap.binaries.Drop(n)
			continue
		}
		l.heap.Free(n)
	}
}
