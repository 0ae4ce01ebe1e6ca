package word

import (
	"troupe/api"
	"troupe/fault"
)

const (
	leastKind = 1
	mostKind  = 4

	markWidth = 2 * width // a mark's lowest bits and its kind's
)

// Mark is a mark's word.
func Mark(kind, n int) (uint64, error) {
	if kind < leastKind || kind > mostKind || n < 0 || n > api.MaxWords {
		return 0, fault.At("mark", kind, api.ErrArg)
	}
	return uint64(n)<<markWidth | uint64(kind)<<width | mark, nil
}

// Marked reads a mark.
func Marked(w uint64) (kind, n int, ok bool) {
	k, words := w>>width&low, w>>markWidth
	if w&low != mark || k < leastKind || k > mostKind || words > api.MaxWords {
		return 0, 0, false
	}
	return int(k), int(words), true
}
