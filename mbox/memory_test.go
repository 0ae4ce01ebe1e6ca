package mbox_test

import (
	"runtime"
	"slices"
	"sync"
	"testing"
	"time"

	"troupe/mbox"
)

// full is the list of words with all its room, which is filled with marks.
func full(words []uint64) []uint64 {
	ws := slices.Grow(slices.Clone(words), 16)
	for i, rest := len(ws), ws[:cap(ws)]; i < len(rest); i++ {
		rest[i] = 7777 + uint64(i)
	}
	return ws
}

// scrawl turns each word of a list, and each of its room.
func scrawl(ws []uint64) {
	ws = ws[:cap(ws)]
	for i := range ws {
		ws[i] = 6666
	}
}

// turns are things that a Box does, most of which turn messages.
func turns() []func(b *mbox.Box) {
	return []func(b *mbox.Box){
		func(b *mbox.Box) { b.Push(1) },
		func(b *mbox.Box) { b.Push(1); b.Push(2); b.Push(3) },
		func(b *mbox.Box) { b.Take() },
		func(b *mbox.Box) { b.Take(); b.Push(1); b.Push(2) },
		func(b *mbox.Box) { b.Next(); b.Take(); b.Push(1) },
		func(b *mbox.Box) { goTo(b, b.Len()-1); b.Take() },
		func(b *mbox.Box) { b.Swap(count(500, b.Len())) },
		func(b *mbox.Box) { b.Take(); b.Swap(count(500, b.Len())); b.Push(3) },
		func(b *mbox.Box) {
			for range b.Len() {
				b.Take()
			}
			b.Push(1)
		},
	}
}

// boxes are some with few messages or none, of which few or many are gone.
func boxes(t *testing.T) []*mbox.Box {
	var all []*mbox.Box
	for n := range 12 {
		for gone := range 12 {
			b := box(t, 0, count(1, n+gone)...)
			for range gone {
				b.Take()
			}
			all = append(all, b)
		}
	}
	return all
}

// R3

func TestSwapKeepsNothing(t *testing.T) {
	for i := range boxes(t) {
		for _, turn := range turns() {
			b := boxes(t)[i]
			ws := full(count(80, b.Len()))
			if !b.Swap(ws) {
				t.Fatal("not as many")
			}
			kept := slices.Clone(ws[:cap(ws)])
			turn(b)
			if !slices.Equal(ws[:cap(ws)], kept) {
				t.Fatalf("what was handed in: %d, not %d", ws[:cap(ws)], kept)
			}
			at, words := b.At(), b.Words()
			scrawl(ws)
			is(t, b, at, words...)
		}
	}
}

func TestRefusedSwapKeepsNothing(t *testing.T) {
	for _, other := range []int{1, 2, 4, 5} {
		b := box(t, 1, 5, 6, 7)
		ws := full(count(80, other))
		kept := slices.Clone(ws[:cap(ws)])
		if b.Swap(ws) || !slices.Equal(ws[:cap(ws)], kept) {
			t.Fatalf("%d words: %d", other, ws)
		}
		scrawl(ws)
		is(t, b, 1, 5, 6, 7)
		b.Push(8)
		is(t, b, 1, 5, 6, 7, 8)
	}
}

func TestWordsAreNewMemory(t *testing.T) {
	for i := range boxes(t) {
		for _, turn := range turns() {
			b := boxes(t)[i]
			ws := b.Words()
			first := slices.Clone(ws)
			all := slices.Clone(ws[:cap(ws)])
			turn(b)
			if !slices.Equal(ws[:cap(ws)], all) {
				t.Fatalf("Words: %d, turned to %d", all, ws[:cap(ws)])
			}
			if len(ws) != len(first) {
				t.Fatalf("%d words, not %d", len(ws), len(first))
			}
			at, words := b.At(), b.Words()
			scrawl(ws)
			is(t, b, at, words...)
			b.Push(77)
			is(t, b, at, append(words, 77)...)
		}
	}
}

func TestWordsShareNothingWithOtherWords(t *testing.T) {
	for _, b := range boxes(t) {
		one, two := b.Words(), b.Words()
		words := slices.Clone(two)
		scrawl(one)
		if !slices.Equal(two, words) {
			t.Fatalf("%d, not %d", two, words)
		}
		is(t, b, 0, words...)
	}
}

// R4

func TestTwoBoxesHaveNothingInCommon(t *testing.T) {
	for _, turn := range turns() {
		one, two := box(t, 1, 5, 6, 7), box(t, 1, 5, 6, 7)
		words := full(count(80, 3))
		one.Swap(words)
		two.Swap(words)
		turn(one)
		is(t, two, 1, 80, 81, 82)
		three := box(t, 0, one.Words()...)
		at, all := three.At(), three.Words()
		turn(one)
		is(t, three, at, all...)
	}
}

// A Box that is filled with what another one told is its own.
func TestOneBoxFromTheWordsOfAnother(t *testing.T) {
	one := box(t, 0, 5, 6, 7)
	two := box(t, 3, 1, 2, 3)
	if !two.Swap(one.Words()) {
		t.Fatal("not as many")
	}
	takes(t, one, 5, true)
	one.Push(8)
	swaps(t, one, true, 11, 12, 13)
	is(t, two, 3, 5, 6, 7)
}

func TestBoxesAtOnceAgree(t *testing.T) {
	var group sync.WaitGroup
	var ends [8][]uint64
	for i := range ends {
		group.Add(1)
		go func() {
			defer group.Done()
			b := &mbox.Box{}
			for w := range uint64(3000) {
				b.Push(w)
				goTo(b, int(w%5))
				if w%3 == 0 {
					b.Take()
				}
			}
			ends[i] = b.Words()
		}()
	}
	group.Wait()
	for i, words := range ends {
		if len(words) == 0 || !slices.Equal(words, ends[0]) {
			t.Errorf("%d: %d words, not %d", i, len(words), len(ends[0]))
		}
	}
}

// many are so many messages that a move of all, for each that is taken, would take minutes.
const many = 1 << 19

// Ways

// patience is how long so many takes may last: they want some thousandth of it.
const patience = 20 * time.Second

// soon gives up if what began is not at its end long since.
func soon(t *testing.T, i int, began time.Time) {
	t.Helper()
	if i%1024 == 0 && time.Since(began) > patience {
		t.Fatalf("%d of %d in %v", i, many, time.Since(began))
	}
}

func TestFirstIsTakenWithoutMovingAll(t *testing.T) {
	b := &mbox.Box{}
	began := time.Now()
	for i := range many {
		b.Push(uint64(i))
		soon(t, i, began)
	}
	for i := range many {
		takes(t, b, uint64(i), true)
		soon(t, i, began)
	}
	is(t, b, 0)
}

func TestManyWaitWhileOthersAreTaken(t *testing.T) {
	b := box(t, 0, count(0, many)...)
	began := time.Now()
	for i := range many {
		b.Push(uint64(many + i))
		takes(t, b, uint64(i), true)
		soon(t, i, began)
	}
	is(t, b, 0, count(many, many)...)
}

// Just the two that are passed over stay ahead of it.
func TestThirdIsTakenWithoutMovingAll(t *testing.T) {
	b := box(t, 0, count(0, many)...)
	began := time.Now()
	for i := range many - 2 {
		goTo(b, 2)
		takes(t, b, uint64(i+2), true)
		soon(t, i, began)
	}
	is(t, b, 0, 0, 1)
}

// inUse is how many bytes are reached.
func inUse() int {
	var m runtime.MemStats
	runtime.GC()
	runtime.ReadMemStats(&m)
	return int(m.HeapAlloc)
}

// few is so little that 2^17 words are more.
const few = 1 << 20

func TestTakenMessagesAreNotKept(t *testing.T) {
	before := inUse()
	b := &mbox.Box{}
	for i := range many {
		b.Push(uint64(i))
	}
	for range many - 3 {
		b.Take()
	}
	if grown := inUse() - before; grown > few {
		t.Errorf("%d bytes for three messages", grown)
	}
	is(t, b, 0, many-3, many-2, many-1)
}

func TestMessagesThatComeAndGoWantNoMore(t *testing.T) {
	before := inUse()
	b := box(t, 0, 1, 2, 3)
	for i := range many {
		b.Push(uint64(i))
		b.Take()
	}
	if grown := inUse() - before; grown > few {
		t.Errorf("%d bytes for three messages", grown)
	}
	is(t, b, 0, many-3, many-2, many-1)
}
