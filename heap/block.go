package heap

import (
	"troupe/api"
	"troupe/word"
)

// What a word's lowest bits say that it is, as far as a heap makes and reads words itself.
const (
	width = 3 // how many the lowest bits are
	low   = 1<<width - 1

	atomTag   = 1
	blockTag  = 5
	handleTag = 6

	nilWord = 4
)

// Kinds of marks.
const (
	aTuple = iota + 1
	aPair
	aNumber
	aBinary
)

// tagged is the word of a block's name, a handle's or an atom's number.
func tagged(n int, tag uint64) uint64 { return uint64(n)<<width | tag }

// named is the block that a word names.
func (h *Heap) named(w uint64) (p int, ok bool) {
	if w&low != blockTag {
		return 0, false
	}
	p = int(w >> width)
	if _, err := h.Len(p); err != nil {
		return 0, false
	}
	return p, true
}

// read is word i of a block; 0, where it has none.
func (h *Heap) read(p, i int) uint64 {
	w, _ := h.Get(p, i)
	return w
}

// extent is how many words a block with such a mark has; 0, if no block may have it.
func extent(kind, n int) int {
	words := 1 + n // the mark, and those that are looked at
	switch {
	case kind == aBinary && n == 1:
		words++ // where it begins
		fallthrough
	case kind == aNumber && n == 0:
		words++ // the number, or how many bytes
		fallthrough
	case kind == aPair && n == 2, kind == aTuple:
		return words
	}
	return 0
}

// form is of which kind a block is; 0 of one that is of none of the forms.
func (h *Heap) form(p int) int {
	kind, n, ok := word.Marked(h.read(p, 0))
	if words, _ := h.Len(p); !ok || words != extent(kind, n) {
		return 0
	}
	return kind
}

// handle is the handle of a binary's block.
func (h *Heap) handle(p int) (handle int, ok bool) {
	w := h.read(p, 1)
	if h.form(p) != aBinary || w&low != handleTag {
		return 0, false
	}
	return int(w >> width), true
}

// bytes are the bytes of a binary's block.
func (h *Heap) bytes(p int) ([]byte, error) {
	handle, ok := h.handle(p)
	if !ok {
		return nil, api.ErrArg
	}
	return h.binaries.Part(handle, int(h.read(p, 2)), int(h.read(p, 3)))
}

// lay takes a block for a mark, by which n words behind it are looked at, and these words. It is the block's word.
func (h *Heap) lay(kind, n int, words ...uint64) (uint64, error) {
	mark, _ := word.Mark(kind, n) // never refused: no term that may be has more items than a mark can tell
	p, err := h.Alloc(1 + len(words))
	if err != nil {
		return 0, err
	}
	h.Set(p, 0, mark)
	for i, w := range words {
		h.Set(p, 1+i, w)
	}
	return tagged(p, blockTag), nil
}
