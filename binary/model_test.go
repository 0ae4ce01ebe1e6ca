package binary

import (
	"math/rand"
	"slices"
	"testing"

	"troupe/api"
)

// model is a heap as the chapter's words tell it: for each slot its generation, who holds it, its bytes.
type model struct {
	slots, room int
	given       int   // how many slots were given once
	freed       []int // the one that was freed last first
	generations map[int]int
	counts      map[int]int // by slot; 0: it is free
	texts       map[int]string
}

func newModel(slots, room int) *model {
	return &model{slots: slots, room: room, generations: map[int]int{}, counts: map[int]int{}, texts: map[int]string{}}
}

func (m *model) used() int {
	sum := 0
	for _, s := range m.texts {
		sum += len(s)
	}
	return sum
}

func (m *model) put(text string) int {
	if m.used()+len(text) > m.room || len(m.freed) == 0 && m.given == m.slots {
		return -1
	}
	at := m.given
	if len(m.freed) > 0 {
		at, m.freed = m.freed[0], m.freed[1:]
	} else {
		m.given++
	}
	m.counts[at], m.texts[at] = 1, text
	return at + above*m.generations[at]
}

func (m *model) drop(at int) {
	if m.counts[at]--; m.counts[at] == 0 {
		delete(m.texts, at)
		m.generations[at]++
		m.freed = slices.Concat([]int{at}, m.freed)
	}
}

// kind is what is wrong with a handle.
func (m *model) kind(handle int) api.Errno {
	if handle < 0 {
		return api.ErrNone
	}
	at, generation := handle%above, handle/above
	switch {
	case at >= m.given || generation > m.generations[at]:
		return api.ErrNone
	case generation < m.generations[at] || m.counts[at] == 0:
		return api.ErrStale
	}
	return api.OK
}

// held are the handles that are good, by slot.
func (m *model) held() []int {
	var handles []int
	for at := range m.given {
		if m.counts[at] > 0 {
			handles = append(handles, at+above*m.generations[at])
		}
	}
	return handles
}

// isAs asks whether a heap says of itself, and of all handles near those that were given, what the model says.
func (m *model) isAs(t *testing.T, h *Heap) {
	t.Helper()
	isHeap(t, h, m.used(), m.held()...)
	for at := -1; at <= m.slots; at++ {
		for g := range m.generations[at] + 3 {
			handle := at + above*g
			if kind := m.kind(handle); kind != api.OK {
				wrong(t, h, kind, handle)
				continue
			}
			holds(t, h, handle, m.counts[at], m.texts[at])
		}
	}
}

// both asks a heap and the model for one thing at random, and holds the answers against each other.
func both(t *testing.T, r *rand.Rand, h *Heap, m *model) {
	t.Helper()
	if r.Intn(100) < 40 {
		text := string(many(r.Intn(m.room + 2)))
		text = text[r.Intn(len(text)+1):]
		if want := m.put(text); want < 0 {
			noPut(t, h, len(text))
		} else {
			puts(t, h, text, want)
		}
		return
	}
	at := r.Intn(m.slots)
	handle := at + above*(m.generations[at]-r.Intn(2)+r.Intn(2))
	if kind := m.kind(handle); kind != api.OK {
		wrong(t, h, kind, handle)
		return
	}
	if r.Intn(3) == 0 {
		m.counts[at]++
		keeps(t, h, handle)
		return
	}
	m.drop(at)
	drops(t, h, handle)
}

// P5.2 to P5.5, on many heaps: each answer is what the chapter's words say.
func TestHeapsAreAsTheModelSays(t *testing.T) {
	for seed := range int64(100) {
		r := rand.New(rand.NewSource(seed))
		slots, room := 1+r.Intn(6), r.Intn(30)
		h, m := fresh(t, slots, room), newModel(slots, room)
		for range 150 {
			both(t, r, h, m)
			m.isAs(t, h)
		}
	}
}

// P5.5

func TestAHandleThatWasDroppedIsNeverGoodAgain(t *testing.T) {
	r := rand.New(rand.NewSource(3))
	h := fresh(t, 20, 1000)
	good, gone := map[int]int{}, map[int]int{} // handles, with how many bytes they have
	for range 5000 {
		n := r.Intn(60)
		if handle, err := h.Put(make([]byte, n)); err == nil {
			if _, ok := gone[handle]; ok {
				t.Fatalf("%d is given once more", handle)
			}
			good[handle] = n
		}
		sum := 0
		for _, handle := range h.Handles() {
			sum += good[handle]
			if r.Intn(12) == 0 {
				drops(t, h, handle)
				gone[handle] = good[handle]
				sum -= good[handle]
			}
		}
		if h.Used() != sum {
			t.Fatalf("%d used, not %d", h.Used(), sum)
		}
	}
	if len(gone) < 1000 {
		t.Errorf("only %d were dropped", len(gone))
	}
	for handle := range gone {
		wrong(t, h, api.ErrStale, handle)
	}
}
