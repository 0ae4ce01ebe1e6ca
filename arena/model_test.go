package arena

import (
	"math/rand"
	"testing"

	"troupe/api"
)

// both asks an arena and the model for one thing at random, and holds the answers against each other.
func both(t *testing.T, r *rand.Rand, a *Arena, m *model) {
	t.Helper()
	switch dice := r.Intn(100); {
	case dice < 55:
		bothAlloc(t, r.Intn(1+r.Intn(m.size+2))-r.Intn(2), a, m)
	case dice < 85:
		bothFree(t, r.Intn(m.size+4)-1, a, m)
	case dice < 99:
		for p, words := range m.words {
			for i := range words {
				words[i] = r.Uint64()
				set(t, a, p, i, words[i])
			}
		}
	default:
		a.Clear()
		m.clear()
	}
}

func bothAlloc(t *testing.T, n int, a *Arena, m *model) {
	t.Helper()
	want, kind := m.alloc(n)
	got, err := a.Alloc(n)
	if got != want || (err == nil) != (kind == api.OK) {
		t.Fatalf("Alloc(%d): %d, not %d: %v", n, got, want, err)
	}
	if err != nil {
		refused(t, err, kind, link{"alloc", n})
	}
}

func bothFree(t *testing.T, p int, a *Arena, m *model) {
	t.Helper()
	if kind := m.free(p); kind != api.OK {
		refused(t, a.Free(p), kind, link{"free", p})
		return
	}
	frees(t, a, p)
}

// P3.2 to P3.5, on many arenas: each answer is what the chapter's words say.
func TestArenasAreAsTheModelSays(t *testing.T) {
	for seed := range int64(150) {
		r := rand.New(rand.NewSource(seed))
		size := 2 + r.Intn(100)
		quota := size
		if r.Intn(2) == 0 {
			quota = 1 + r.Intn(size)
		}
		a, m := fresh(t, size, quota), newModel(size, quota)
		for range 200 {
			both(t, r, a, m)
			m.isAs(t, a)
		}
	}
}

// P3.5

func TestNoTwoBlocksShareAPlace(t *testing.T) {
	r := rand.New(rand.NewSource(7))
	a := fresh(t, 4096, 3000)
	var names []int
	for range 20000 {
		if p, err := a.Alloc(r.Intn(1 + r.Intn(200))); err == nil {
			names = append(names, p)
		} else if len(names) > 0 {
			i := r.Intn(len(names))
			frees(t, a, names[i])
			names[i] = names[len(names)-1]
			names = names[:len(names)-1]
		}
		if a.Used() > 3000 || a.Top() > 4096 {
			t.Fatalf("%d used, top %d", a.Used(), a.Top())
		}
	}
	owner := make([]int, 4096)
	for _, p := range a.Blocks() {
		n, _ := a.Len(p)
		places, _ := power(n)
		for i := p - 1; i < p-1+places; i++ {
			if owner[i] != 0 {
				t.Fatalf("place %d is of %d and of %d", i, owner[i], p)
			}
			owner[i] = p
		}
	}
}

func TestWhatIsWrittenStays(t *testing.T) {
	r := rand.New(rand.NewSource(11))
	a := fresh(t, 1000, 900)
	kept := map[int][]uint64{}
	for range 20000 {
		n := r.Intn(20)
		if p, err := a.Alloc(n); err == nil {
			kept[p] = make([]uint64, n)
			for i := range n {
				holdsWord(t, a, p, i, 0)
				kept[p][i] = r.Uint64()
				set(t, a, p, i, kept[p][i])
			}
			continue
		}
		for _, p := range a.Blocks() {
			for i, w := range kept[p] {
				holdsWord(t, a, p, i, w)
			}
			if r.Intn(3) == 0 {
				frees(t, a, p)
				delete(kept, p)
			}
		}
	}
}
