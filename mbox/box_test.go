package mbox_test

import (
	"slices"
	"testing"

	"troupe/mbox"
)

// The chapter's example.
func TestExample(t *testing.T) {
	b := &mbox.Box{}
	b.Push(5)
	b.Push(6)
	b.Push(7)
	nexts(t, b, true)
	takes(t, b, 6, true)
	is(t, b, 0, 5, 7)
}

// P12.1, a zero Box

func TestZeroBoxHasNoMessages(t *testing.T) {
	var b mbox.Box
	is(t, &b, 0)
}

func TestZeroBoxIsNotTurned(t *testing.T) {
	calls := []func(b *mbox.Box){
		func(b *mbox.Box) { peeks(t, b, 0, false) },
		func(b *mbox.Box) { nexts(t, b, false) },
		func(b *mbox.Box) { takes(t, b, 0, false) },
		func(b *mbox.Box) { b.First() },
		func(b *mbox.Box) { swaps(t, b, true) },
		func(b *mbox.Box) { swaps(t, b, false, 1) },
		func(b *mbox.Box) { swaps(t, b, false, 1, 2) },
	}
	for i, call := range calls {
		for j, then := range calls {
			t.Logf("call %d, then %d", i, j)
			b := &mbox.Box{}
			call(b)
			is(t, b, 0)
			then(b)
			is(t, b, 0)
			b.Push(9)
			is(t, b, 0, 9)
			takes(t, b, 9, true)
		}
	}
}

// A Box from which all messages were taken is as a zero one.
func TestEmptiedBoxIsAsAZeroOne(t *testing.T) {
	for n := 1; n < 20; n++ {
		b := box(t, 0, count(1, n)...)
		for i := range n {
			takes(t, b, uint64(i+1), true)
		}
		is(t, b, 0)
		nexts(t, b, false)
		takes(t, b, 0, false)
		swaps(t, b, true)
		swaps(t, b, false, 1)
		is(t, b, 0)
		b.Push(5)
		b.Push(6)
		is(t, b, 0, 5, 6)
	}
}

// P12.1, Push

func TestPushIsTheLastFromEveryPlace(t *testing.T) {
	for n := range 20 {
		for at := range n + 1 {
			b := box(t, at, count(10, n)...)
			b.Push(99)
			is(t, b, at, append(count(10, n), 99)...)
			b.Push(98)
			is(t, b, at, append(count(10, n), 99, 98)...)
		}
	}
}

func TestPushBehindTheLastIsAtThePlace(t *testing.T) {
	b := box(t, 3, 5, 6, 7)
	peeks(t, b, 0, false)
	b.Push(8)
	peeks(t, b, 8, true)
	is(t, b, 3, 5, 6, 7, 8)
	nexts(t, b, false)
	b.Push(9)
	peeks(t, b, 9, true)
	takes(t, b, 9, true)
	is(t, b, 0, 5, 6, 7, 8)
}

func TestWordsAreAnyNumbers(t *testing.T) {
	words := []uint64{0, 1, 0, greatest, 1 << 63, 1<<63 - 1, greatest - 1, greatest, 0}
	for i := range 64 {
		words = append(words, 1<<i, greatest>>i, greatest<<i)
	}
	b := box(t, 0, words...)
	back := slices.Clone(words)
	slices.Reverse(back)
	swaps(t, b, true, back...)
	is(t, b, 0, back...)
	for i, w := range back {
		takes(t, b, w, true)
		is(t, b, 0, back[i+1:]...)
	}
	b.Push(0)
	peeks(t, b, 0, true)
	takes(t, b, 0, true)
	takes(t, b, 0, false)
}

// P12.1, Peek

func TestPeekFromEveryPlace(t *testing.T) {
	for n := range 10 {
		for at := range n + 1 {
			b := box(t, at, count(20, n)...)
			for range 3 {
				if at < n {
					peeks(t, b, uint64(20+at), true)
				} else {
					peeks(t, b, 0, false)
				}
			}
			is(t, b, at, count(20, n)...)
		}
	}
}

// P12.1, Next

func TestNextFromEveryPlace(t *testing.T) {
	for n := range 10 {
		words := count(30, n)
		b := box(t, 0, words...)
		for at := range n {
			nexts(t, b, at+1 < n)
			is(t, b, at+1, words...)
		}
		for range 3 {
			nexts(t, b, false)
			is(t, b, n, words...)
		}
	}
}

func TestNextAtTheEndGoesOnBehindAPush(t *testing.T) {
	b := box(t, 1, 5)
	nexts(t, b, false)
	nexts(t, b, false)
	b.Push(6)
	is(t, b, 1, 5, 6)
	b.Push(7)
	nexts(t, b, true)
	is(t, b, 2, 5, 6, 7)
	nexts(t, b, false)
	is(t, b, 3, 5, 6, 7)
}

// P12.1, Take

func TestTakeFromEveryPlace(t *testing.T) {
	for n := range 20 {
		for at := range n {
			words := count(40, n)
			b := box(t, at, words...)
			takes(t, b, words[at], true)
			left := slices.Delete(slices.Clone(words), at, at+1)
			is(t, b, 0, left...)
			b.Push(99)
			is(t, b, 0, append(left, 99)...)
		}
	}
}

func TestTakeOfNoneStays(t *testing.T) {
	for n := range 10 {
		words := count(50, n)
		b := box(t, n, words...)
		takes(t, b, 0, false)
		is(t, b, n, words...)
		takes(t, b, 0, false)
		is(t, b, n, words...)
		b.Push(7)
		is(t, b, n, append(words, 7)...)
		takes(t, b, 7, true)
		is(t, b, 0, words...)
	}
}

// Each order in which five messages can be taken.
func TestTakeInEveryOrder(t *testing.T) {
	for order := range 5 * 4 * 3 * 2 {
		left := count(1, 5)
		b := box(t, 0, left...)
		for n := 5; n > 0; n-- {
			at := order % n
			order /= n
			goTo(b, at)
			takes(t, b, left[at], true)
			left = slices.Delete(left, at, at+1)
			is(t, b, 0, left...)
		}
	}
}

// P12.1, First

func TestFirstFromEveryPlace(t *testing.T) {
	for n := range 10 {
		for at := range n + 1 {
			words := count(60, n)
			b := box(t, at, words...)
			b.First()
			is(t, b, 0, words...)
			b.First()
			is(t, b, 0, words...)
		}
	}
}

// P12.1, Words

func TestWordsBehindTakes(t *testing.T) {
	b := box(t, 0, count(1, 9)...)
	takes(t, b, 1, true)
	is(t, b, 0, 2, 3, 4, 5, 6, 7, 8, 9)
	goTo(b, 3)
	takes(t, b, 5, true)
	is(t, b, 0, 2, 3, 4, 6, 7, 8, 9)
	goTo(b, 6)
	takes(t, b, 9, true)
	is(t, b, 0, 2, 3, 4, 6, 7, 8)
	goTo(b, 5)
	takes(t, b, 8, true)
	takes(t, b, 2, true)
	is(t, b, 0, 3, 4, 6, 7)
	b.Push(10)
	is(t, b, 0, 3, 4, 6, 7, 10)
}

// P12.1, Swap

func TestSwapOfAsManyFromEveryPlace(t *testing.T) {
	for n := range 10 {
		for at := range n + 1 {
			b := box(t, at, count(70, n)...)
			swaps(t, b, true, count(90, n)...)
			is(t, b, at, count(90, n)...)
			b.Push(8)
			is(t, b, at, append(count(90, n), 8)...)
		}
	}
}

func TestSwapOfMoreOrFewerTurnsNothing(t *testing.T) {
	for n := range 10 {
		for at := range n + 1 {
			for other := range 15 {
				if other == n {
					continue
				}
				b := box(t, at, count(70, n)...)
				swaps(t, b, false, count(90, other)...)
				is(t, b, at, count(70, n)...)
				b.Push(8)
				is(t, b, at, append(count(70, n), 8)...)
			}
		}
	}
}

// How many there are is what is left, not what was pushed.
func TestSwapBehindTakes(t *testing.T) {
	for n := 2; n < 20; n++ {
		b := box(t, 0, count(1, n)...)
		for left := n - 1; left > 0; left-- {
			goTo(b, left/2)
			b.Take()
			words := b.Words()
			for at := range left + 1 {
				goTo(b, at)
				swaps(t, b, false, count(90, left+1)...)
				swaps(t, b, false, count(90, left-1)...)
				swaps(t, b, false, count(90, n+1)...)
				is(t, b, at, words...)
				words = count(uint64(100*left+at), left)
				swaps(t, b, true, words...)
				is(t, b, at, words...)
			}
		}
		b.First()
		takes(t, b, 101, true)
		swaps(t, b, true)
		swaps(t, b, false, 1)
		is(t, b, 0)
	}
}

func TestSwapOfNone(t *testing.T) {
	var b mbox.Box
	if !b.Swap(nil) || !b.Swap([]uint64{}) {
		t.Error("no words are not as many as no messages")
	}
	is(t, &b, 0)
	b.Push(3)
	if b.Swap(nil) || b.Swap([]uint64{}) {
		t.Error("no words are as many as one message")
	}
	is(t, &b, 0, 3)
}

func TestSwapIsWhatIsTaken(t *testing.T) {
	b := box(t, 1, 5, 6, 7)
	swaps(t, b, true, 15, 16, 17)
	takes(t, b, 16, true)
	takes(t, b, 15, true)
	swaps(t, b, true, 27)
	takes(t, b, 27, true)
	takes(t, b, 0, false)
}
