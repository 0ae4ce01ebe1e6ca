package links_test

import (
	"runtime"
	"slices"
	"sync"
	"testing"

	"troupe/api"
	"troupe/fault"
	"troupe/links"
)

// P15.1: each refusal is a chain of one Fault around a kind.
func TestChains(t *testing.T) {
	var n links.Net
	for ref := range int64(8) {
		watches(t, &n, 3, ref, ref)
	}
	leaves(t, &n, 5, 3)
	ends(t, &n, 6, nil, []int64{6})
	for _, c := range []struct {
		ref, who int64
		kind     api.Errno
		n        int
		text     string
	}{
		{7, 4, api.ErrArg, 7, "demonitor: argument"},
		{0, 0, api.ErrArg, 0, "demonitor: argument"}, // it is watched, but it does not watch
		{5, 3, api.ErrNone, 5, "demonitor: none"},
		{5, 4, api.ErrNone, 5, "demonitor: none"},
		{6, 3, api.ErrNone, 6, "demonitor: none"},
		{8, 3, api.ErrNone, 8, "demonitor: none"},
		{-1, 3, api.ErrNone, 1<<31 - 1, "demonitor: none"},
		{7 + 1<<31, 3, api.ErrNone, 7, "demonitor: none"},
	} {
		err := n.Demonitor(c.ref, c.who)
		got, there := fault.Number(err, "demonitor")
		if !there || got != c.n || fault.Kind(err) != c.kind || !fault.Is(err, c.kind) || err.Error() != c.text || !slices.Equal(fault.Path(err), []string{"demonitor"}) {
			t.Errorf("Demonitor(%d, %d): %v of %d, not %q of %d", c.ref, c.who, err, got, c.text, c.n)
		}
	}
	isLen(t, &n, 0, 6)
}

// scrawl turns each number of a list, and each of its room.
func scrawl(list []int64) {
	list = list[:cap(list)]
	for i := range list {
		list[i] = 6666
	}
}

// star is a net in which one is linked to so many, watched by them, and watches them.
func star(t *testing.T, one int64, many int) *links.Net {
	t.Helper()
	var n links.Net
	for i := range int64(many) {
		joins(t, &n, one, one+1+i)
		watches(t, &n, one+1+i, one, 2*i)
		watches(t, &n, one, one+1+i, 2*i+1)
	}
	return &n
}

// R3

func TestWhatIsToldIsNobodyElses(t *testing.T) {
	for many := range 40 {
		n := star(t, 10, many)
		var linked, refs []int64
		for i := range int64(many) {
			linked, refs = append(linked, 11+i), append(refs, 2*i)
		}
		for range 2 {
			scrawl(n.Linked(10))
			scrawl(n.Watchers(10))
			scrawl(n.Linked(11))
			scrawl(n.Watchers(11))
			isLinked(t, n, 10, linked...)
			isWatched(t, n, 10, refs...)
		}
		gotLinked, gotRefs := n.End(10)
		scrawl(gotRefs)
		if !slices.Equal(gotLinked, linked) {
			t.Fatalf("End: %d, not %d", gotLinked, linked)
		}
		scrawl(gotLinked)
		isLen(t, n, 0, 0)
		joins(t, n, 10, 20)
		watches(t, n, 20, 10, int64(2*many))
		isLinked(t, n, 10, 20)
		isWatched(t, n, 10, int64(2*many))
	}
}

// What was told does not turn with the net, nor with what is told later.
func TestWhatWasToldStays(t *testing.T) {
	for many := 2; many < 40; many++ {
		n := star(t, 10, many)
		lists := [][]int64{n.Linked(10), n.Watchers(10), n.Linked(11), n.Watchers(11)}
		a, b := n.End(12)
		lists = append(lists, a, b)
		var kept [][]int64
		for _, list := range lists {
			kept = append(kept, slices.Clone(list[:cap(list)]))
		}
		joins(t, n, 10, 5)
		parts(t, n, 10, 11)
		leaves(t, n, 0, 11)
		watches(t, n, 5, 10, int64(2*many))
		scrawl(n.Linked(10))
		scrawl(n.Watchers(10))
		a, b = n.End(10)
		scrawl(a)
		scrawl(b)
		for i, list := range lists {
			if !slices.Equal(list[:cap(list)], kept[i]) {
				t.Fatalf("%d, and was %d", list[:cap(list)], kept[i])
			}
		}
	}
}

// R4

func TestTwoNetsHaveNothingInCommon(t *testing.T) {
	one, two := mixed(t), mixed(t)
	ends(t, one, 3, []int64{-5, 1, 2, 4}, []int64{0, 2, 3, 5})
	joins(t, one, 7, 8)
	watches(t, one, 7, 8, 8)
	watches(t, one, 7, 8, 9)
	isLen(t, two, 5, 8)
	isNobody(t, two, 7, 8)
	isLinked(t, two, 3, -5, 1, 2, 4)
	isWatched(t, two, 3, 0, 2, 3, 5)
	isGone(t, two, 8, 9)
	watches(t, two, 1, 4, 8)
	parts(t, two, 1, 2)
	isLinked(t, one, 1, 2)
	isThere(t, one, 8, 7, 8)
	watches(t, &links.Net{}, 1, 2, 0)
}

func TestNetsAtOnceAgree(t *testing.T) {
	var group sync.WaitGroup
	var all [8][]string
	for i := range all {
		group.Add(1)
		go func() {
			defer group.Done()
			r := newChance(7)
			var n links.Net
			var m model
			for range 2000 {
				c := r.call(&m)
				m.says(c)
				all[i] = append(all[i], plain(&n, c))
			}
		}()
	}
	group.Wait()
	for i, texts := range all {
		if !slices.Equal(texts, all[0]) {
			t.Errorf("%d: not as the first", i)
		}
	}
}

// inUse is how many bytes are reached.
func inUse() int {
	var m runtime.MemStats
	runtime.GC()
	runtime.ReadMemStats(&m)
	return int(m.HeapAlloc)
}

// few is so little that what must not be kept here is far more.
const few = 1 << 20

func TestWhatIsGoneIsNotKept(t *testing.T) {
	before := inUse()
	var n links.Net
	joins(t, &n, -1, -2)
	watches(t, &n, -1, -2, 0)
	for i := range int64(1 << 17) {
		n.Link(i, i+1)
		ref := n.Monitor(i, i+1)
		n.Monitor(i+1, i)
		n.Link(i, -1)
		n.Unlink(-1, i)
		if n.Demonitor(ref, i) != nil {
			t.Fatal("Demonitor")
		}
		if linked, refs := n.End(i); len(linked) != 1 || len(refs) != 1 {
			t.Fatalf("End(%d): %d; %d", i, linked, refs)
		}
	}
	if grown := inUse() - before; grown > few {
		t.Errorf("%d bytes for a link and a monitor", grown)
	}
	isLen(t, &n, 1, 1)
	isThere(t, &n, 0, -1, -2)
}

// Many at once, which go one by one.
func TestANetThatIsEmptyAgainKeepsNothing(t *testing.T) {
	before := inUse()
	var n links.Net
	for i := range int64(1 << 17) {
		n.Link(i, -1-i%5)
		n.Monitor(i, -1)
	}
	for i := range int64(1 << 17) {
		if i%2 == 0 {
			n.Unlink(-1-i%5, i)
			n.Demonitor(i, i)
		} else {
			n.End(i)
		}
	}
	isLen(t, &n, 0, 0)
	if grown := inUse() - before; grown > few {
		t.Errorf("%d bytes for nobody", grown)
	}
	watches(t, &n, 1, 2, 1<<17)
}
