package mbox_test

import (
	"math/rand"
	"slices"
	"testing"

	"troupe/mbox"
)

// model is a plain list of words and a place, and does what the chapter's words say, as slowly as they say it.
type model struct {
	words []uint64
	at    int
}

func (m *model) peek() (uint64, bool) {
	if m.at == len(m.words) {
		return 0, false
	}
	return m.words[m.at], true
}

func (m *model) next() bool {
	if _, ok := m.peek(); ok {
		m.at++
	}
	_, ok := m.peek()
	return ok
}

func (m *model) take() (uint64, bool) {
	w, ok := m.peek()
	if ok {
		m.words = slices.Concat(m.words[:m.at], m.words[m.at+1:])
		m.at = 0
	}
	return w, ok
}

func (m *model) swap(ws []uint64) bool {
	if len(ws) != len(m.words) {
		return false
	}
	m.words = slices.Clone(ws)
	return true
}

// The calls that turn a Box, or may be refused.
const (
	doPush = iota
	doNext
	doTake
	doFirst
	doSwap
	doFewer
	doMore
	calls
)

// both does one thing with a Box and with the model, and holds the answers against each other.
func both(t *testing.T, call int, w uint64, b *mbox.Box, m *model) {
	t.Helper()
	switch call {
	case doPush:
		b.Push(w)
		m.words = append(m.words, w)
	case doNext:
		nexts(t, b, m.next())
	case doTake:
		word, ok := m.take()
		takes(t, b, word, ok)
	case doFirst:
		b.First()
		m.at = 0
	case doSwap:
		bothSwap(t, count(w, len(m.words)), b, m)
	case doFewer:
		bothSwap(t, count(w, max(0, len(m.words)-1)), b, m)
	case doMore:
		bothSwap(t, count(w, len(m.words)+1), b, m)
	}
}

func bothSwap(t *testing.T, words []uint64, b *mbox.Box, m *model) {
	t.Helper()
	swaps(t, b, m.swap(words), words...)
}

// P12.1, P12.2: all short scripts.
func TestShortScriptsAreAsTheModelSays(t *testing.T) {
	const length = 6
	all := 1
	for range length {
		all *= calls
	}
	for script := range all {
		b, m := &mbox.Box{}, &model{}
		for rest, step := script, 0; step < length; step++ {
			both(t, rest%calls, uint64(100+10*step), b, m)
			rest /= calls
		}
		is(t, b, m.at, m.words...)
	}
}

// P12.1, P12.2: all scripts of those that turn a Box with messages already there.
func TestShortScriptsOnMessagesAreAsTheModelSays(t *testing.T) {
	const length, turning = 6, doSwap + 1
	all := 1
	for range length {
		all *= turning
	}
	for n := range 6 {
		for script := range all {
			b, m := &mbox.Box{}, &model{words: count(1, n)}
			for _, w := range m.words {
				b.Push(w)
			}
			for rest, step := script, 0; step < length; step++ {
				both(t, rest%turning, uint64(100+10*step), b, m)
				rest /= turning
			}
			is(t, b, m.at, m.words...)
		}
	}
}

// P12.1, P12.2: long scripts by chance, each of which likes some calls more than others, for a while.
func TestLongScriptsAreAsTheModelSays(t *testing.T) {
	for seed := range int64(100) {
		r := rand.New(rand.NewSource(seed))
		b, m := &mbox.Box{}, &model{}
		for range 20 {
			var likes [calls]int
			for i := range likes {
				likes[i] = r.Intn(1 + r.Intn(20))
			}
			for range r.Intn(200) {
				both(t, liked(r, likes), r.Uint64()>>r.Intn(64), b, m)
				is(t, b, m.at, m.words...)
			}
		}
	}
}

// liked is a call by chance, each as often as it is liked.
func liked(r *rand.Rand, likes [calls]int) int {
	all := 1
	for _, n := range likes {
		all += n
	}
	dice := r.Intn(all)
	for call, n := range likes {
		if dice < n {
			return call
		}
		dice -= n
	}
	return doPush
}

// P12.2: whom one who looks for each third message passes over stays in order, and so does what is taken.
func TestPassedOverStayInOrder(t *testing.T) {
	b := &mbox.Box{}
	for _, w := range count(0, 300) {
		b.Push(w)
	}
	var taken []uint64
	for {
		w, ok := b.Peek()
		for ok && w%3 != 0 {
			b.Next()
			w, ok = b.Peek()
		}
		if !ok {
			break
		}
		b.Take()
		taken = append(taken, w)
	}
	if len(taken) != 100 || !slices.IsSorted(taken) {
		t.Errorf("taken: %d", taken)
	}
	if left := b.Words(); len(left) != 200 || !slices.IsSorted(left) || b.At() != 200 {
		t.Errorf("left: %d, at %d", left, b.At())
	}
	b.First()
	for i := range 100 {
		takes(t, b, uint64(3*i+1), true)
		takes(t, b, uint64(3*i+2), true)
	}
	is(t, b, 0)
}
