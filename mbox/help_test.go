package mbox_test

import (
	"math"
	"slices"
	"testing"

	"troupe/mbox"
)

// greatest is the greatest word.
const greatest = math.MaxUint64

// box is one with these messages, whose place is at.
func box(t *testing.T, at int, words ...uint64) *mbox.Box {
	t.Helper()
	b := &mbox.Box{}
	for _, w := range words {
		b.Push(w)
	}
	goTo(b, at)
	is(t, b, at, words...)
	return b
}

// goTo goes to a place from the first one on.
func goTo(b *mbox.Box, at int) {
	b.First()
	for range at {
		b.Next()
	}
}

// is asks for all that a Box tells: its place, its messages, and the one at the place; and that telling turns nothing.
func is(t *testing.T, b *mbox.Box, at int, words ...uint64) {
	t.Helper()
	for range 2 {
		if got := b.At(); got != at {
			t.Fatalf("At: %d, not %d", got, at)
		}
		if got := b.Len(); got != len(words) {
			t.Fatalf("Len: %d, not %d", got, len(words))
		}
		if got := b.Words(); !slices.Equal(got, words) {
			t.Fatalf("Words: %d, not %d", got, words)
		}
		if at < len(words) {
			peeks(t, b, words[at], true)
		} else {
			peeks(t, b, 0, false)
		}
	}
}

// peeks asks for the message at the place, and whether there is one.
func peeks(t *testing.T, b *mbox.Box, word uint64, there bool) {
	t.Helper()
	if w, ok := b.Peek(); w != word || ok != there {
		t.Fatalf("Peek: %d, %v, not %d, %v", w, ok, word, there)
	}
}

// takes takes what must be told.
func takes(t *testing.T, b *mbox.Box, word uint64, there bool) {
	t.Helper()
	if w, ok := b.Take(); w != word || ok != there {
		t.Fatalf("Take: %d, %v, not %d, %v", w, ok, word, there)
	}
}

// nexts goes on, and asks whether there is a message then.
func nexts(t *testing.T, b *mbox.Box, there bool) {
	t.Helper()
	if ok := b.Next(); ok != there {
		t.Fatalf("Next: %v, not %v", ok, there)
	}
}

// swaps hands words in, and asks whether they are taken.
func swaps(t *testing.T, b *mbox.Box, taken bool, words ...uint64) {
	t.Helper()
	if ok := b.Swap(words); ok != taken {
		t.Fatalf("Swap(%d): %v, not %v", words, ok, taken)
	}
}

// count is the list of n words from first on.
func count(first uint64, n int) []uint64 {
	ws := make([]uint64, n)
	for i := range ws {
		ws[i] = first + uint64(i)
	}
	return ws
}
