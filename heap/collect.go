package heap

import (
	"troupe/api"
	"troupe/fault"
	"troupe/word"
)

// reach are the blocks that are reached from words; their list is used up.
func (h *Heap) reach(left []uint64) map[int]struct{} {
	reached := map[int]struct{}{}
	for len(left) > 0 {
		last := len(left) - 1
		p, ok := h.named(left[last])
		left = left[:last]
		if _, met := reached[p]; met || !ok {
			continue
		}
		reached[p] = struct{}{}
		left = h.looked(p, left)
	}
	return reached
}

// looked appends the words of a block that are looked at.
func (h *Heap) looked(p int, left []uint64) []uint64 {
	_, n, _ := word.Marked(h.read(p, 0))
	words, _ := h.Len(p)
	for i := 1; i <= n && i < words; i++ { // a mark that is none of Store's may tell of more words than there are
		left = append(left, h.read(p, i))
	}
	return left
}

// giveBack gives a block back, with what it holds of a handle.
func (h *Heap) giveBack(p int) {
	if handle, ok := h.handle(p); ok {
		h.binaries.Drop(handle)
	}
	h.Free(p)
}

// Collect gives back what is not reached.
func (h *Heap) Collect(more ...uint64) int {
	reached := h.reach(append(h.Held(), more...))
	given := 0
	for _, p := range h.Blocks() {
		if _, ok := reached[p]; !ok {
			h.giveBack(p)
			given++
		}
	}
	return given
}

// Drop gives back all.
func (h *Heap) Drop() {
	for _, p := range h.Blocks() {
		h.giveBack(p)
	}
	h.Clear()
	h.slots, h.least = nil, 0
}

// Words are the words of what is reached.
func (h *Heap) Words(w uint64) (int, error) {
	if _, ok := h.named(w); !ok && w&low == blockTag {
		return 0, fault.At("words", 0, api.ErrNone)
	}
	sum := 0
	for p := range h.reach([]uint64{w}) {
		words, _ := h.Len(p)
		sum += words
	}
	return sum, nil
}
