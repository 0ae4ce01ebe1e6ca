package arena

import (
	"errors"
	"slices"
	"testing"

	"troupe/api"
	"troupe/fault"
)

// fresh is an empty arena.
func fresh(t *testing.T, size, quota int) *Arena {
	t.Helper()
	a, err := New(size, quota)
	if err != nil || a == nil {
		t.Fatalf("New(%d, %d): %v", size, quota, err)
	}
	return a
}

// alloc takes a block that must be there.
func alloc(t *testing.T, a *Arena, n int) int {
	t.Helper()
	p, err := a.Alloc(n)
	if err != nil {
		t.Fatalf("Alloc(%d): %v", n, err)
	}
	return p
}

// allocs takes blocks that must have these names.
func allocs(t *testing.T, a *Arena, n int, names ...int) {
	t.Helper()
	for i, want := range names {
		if p, err := a.Alloc(n); p != want || err != nil {
			t.Fatalf("%d: Alloc(%d): %d, not %d: %v", i, n, p, want, err)
		}
	}
}

// frees gives blocks back that must be there.
func frees(t *testing.T, a *Arena, names ...int) {
	t.Helper()
	for _, p := range names {
		if err := a.Free(p); err != nil {
			t.Fatalf("Free(%d): %v", p, err)
		}
	}
}

// set writes a word that must be there.
func set(t *testing.T, a *Arena, p, i int, w uint64) {
	t.Helper()
	if err := a.Set(p, i, w); err != nil {
		t.Fatalf("Set(%d, %d): %v", p, i, err)
	}
}

// holdsWord asks for a word that must be there.
func holdsWord(t *testing.T, a *Arena, p, i int, want uint64) {
	t.Helper()
	if w, err := a.Get(p, i); w != want || err != nil {
		t.Fatalf("Get(%d, %d): %d, not %d: %v", p, i, w, want, err)
	}
}

// link is one Fault of a chain.
type link struct {
	op string
	n  int
}

// refused asks for a chain: these Faults, the outermost first, around this root.
func refused(t *testing.T, err error, root api.Errno, links ...link) {
	t.Helper()
	whole := err
	for _, l := range links {
		var f *api.Fault
		if !errors.As(err, &f) || err != error(f) || f.Op != l.op || f.N != l.n {
			t.Fatalf("%v: no Fault %q of %d there", whole, l.op, l.n)
		}
		err = f.Err
	}
	if err != error(root) || fault.Kind(whole) != root {
		t.Fatalf("%v: the root is not %v", whole, root)
	}
}

// isEmpty tells an arena that holds nothing.
func isEmpty(t *testing.T, a *Arena) {
	t.Helper()
	if a.Used() != 0 || a.Top() != 0 || len(a.Blocks()) != 0 {
		t.Fatalf("not empty: %d used, top %d, blocks %v", a.Used(), a.Top(), a.Blocks())
	}
}

// model is an arena as the chapter's words tell it, with nothing made quick.
type model struct {
	size, quota, used, top int
	lists                  map[int][]int    // by class, the first one first
	words                  map[int][]uint64 // by name
}

func newModel(size, quota int) *model {
	return &model{size: size, quota: quota, lists: map[int][]int{}, words: map[int][]uint64{}}
}

// power is how many places a block for n words has, and of which class it is.
func power(n int) (places, class int) {
	for places, class = 2, 1; places < n+1; class++ {
		places *= 2
	}
	return places, class
}

func (m *model) take(class int) (own int, ok bool) {
	if l := m.lists[class]; len(l) > 0 {
		m.lists[class] = l[1:]
		return l[0], true
	}
	if m.top+1<<class <= m.size {
		m.top += 1 << class
		return m.top - 1<<class, true
	}
	for above := class + 1; above <= 20; above++ {
		l := m.lists[above]
		if len(l) == 0 {
			continue
		}
		m.lists[above] = l[1:]
		for ; above > class; above-- {
			m.lists[above-1] = slices.Insert(slices.Clone(m.lists[above-1]), 0, l[0]+1<<(above-1))
		}
		return l[0], true
	}
	return 0, false
}

func (m *model) alloc(n int) (int, api.Errno) {
	if n < 0 || n > 1<<20 {
		return 0, api.ErrArg
	}
	places, class := power(n)
	if m.used+places > m.quota {
		return 0, api.ErrFull
	}
	own, ok := m.take(class)
	if !ok {
		return 0, api.ErrFull
	}
	m.used += places
	m.words[own+1] = make([]uint64, n)
	return own + 1, api.OK
}

func (m *model) free(p int) api.Errno {
	w, ok := m.words[p]
	if !ok {
		return api.ErrNone
	}
	places, class := power(len(w))
	delete(m.words, p)
	m.used -= places
	m.lists[class] = slices.Insert(slices.Clone(m.lists[class]), 0, p-1)
	return api.OK
}

func (m *model) clear() { *m = *newModel(m.size, m.quota) }

// isAs asks whether an arena says of itself, and of all places near it, what the model says.
func (m *model) isAs(t *testing.T, a *Arena) {
	t.Helper()
	var names []int
	for p := -2; p <= m.size+3; p++ {
		w, ok := m.words[p]
		n, err := a.Len(p)
		if !ok {
			refused(t, err, api.ErrNone, link{"len", p})
			if n != 0 {
				t.Fatalf("Len(%d): %d", p, n)
			}
			continue
		}
		names = append(names, p)
		if n != len(w) || err != nil {
			t.Fatalf("Len(%d): %d, not %d: %v", p, n, len(w), err)
		}
		for i := range w {
			holdsWord(t, a, p, i, w[i])
		}
	}
	if a.Used() != m.used || a.Top() != m.top || !slices.Equal(a.Blocks(), names) {
		t.Fatalf("%d used, top %d, blocks %v; not %d, %d, %v", a.Used(), a.Top(), a.Blocks(), m.used, m.top, names)
	}
}
