package ptab_test

import (
	"runtime"
	"slices"
	"strings"
	"sync"
	"testing"

	"troupe/api"
	"troupe/ptab"
)

// scrawl turns each item of a list, and each of its room.
func scrawl[T any](list []T, with T) {
	list = list[:cap(list)]
	for i := range list {
		list[i] = with
	}
}

// R3

func TestWhatIsToldIsNobodyElses(t *testing.T) {
	for n := range api.MaxNames {
		tab := filled(t, api.MaxProcs, n+1)
		pid := int64(n)
		var want []string
		for i := range n {
			registers(t, tab, pid, filler(i))
			want = append(want, filler(i))
		}
		slices.Sort(want)
		all := tab.All()
		scrawl(tab.All(), 77)
		scrawl(tab.Names(), "turned")
		isTable(t, tab, all, want...)
		gone, _ := tab.Drop(pid)
		scrawl(tab.All(), 77)
		scrawl(tab.Names(), "turned")
		if !slices.Equal(gone, want) {
			t.Fatalf("Drop: %q, not %q", gone, want)
		}
		scrawl(gone, "turned")
		isTable(t, tab, all[:n])
		adds(t, tab, pid+above)
		isTable(t, tab, append(all[:n], pid+above))
	}
}

// What was told does not turn with the table, nor with what is told later.
func TestWhatWasToldStays(t *testing.T) {
	tab := named(t)
	pids, names := tab.All(), tab.Names()
	more, others := tab.All(), tab.Names()
	gone, _ := tab.Drop(0)
	kept, texts, whose := slices.Clone(pids[:cap(pids)]), slices.Clone(names[:cap(names)]), slices.Clone(gone[:cap(gone)])
	scrawl(more, 99)
	scrawl(others, "turned")
	adds(t, tab, above)
	registers(t, tab, above, "a", "zz")
	drops(t, tab, 5, "d")
	last, _ := tab.Drop(above)
	scrawl(last, "turned")
	scrawl(tab.All(), 98)
	scrawl(tab.Names(), "turned")
	if !slices.Equal(pids[:cap(pids)], kept) || !slices.Equal(names[:cap(names)], texts) || !slices.Equal(gone[:cap(gone)], whose) {
		t.Fatalf("%d, %q, %q; not %d, %q, %q", pids, names, gone, kept, texts, whose)
	}
}

// R4

func TestTwoTablesHaveNothingInCommon(t *testing.T) {
	one, two := named(t), named(t)
	drops(t, one, 5, "d")
	adds(t, one, 3+above)
	adds(t, one, 5+above)
	registers(t, one, 3+above, "new")
	unregisters(t, one, "ab", "b")
	isTable(t, two, []int64{0, 1 + 2*above, 2, 4, 5}, "a", "aa", "ab", "b", "c", "d")
	isNobodys(t, two, "new")
	wrong(t, two, api.ErrNone, 3+above, 5+above)
	wrong(t, two, api.ErrStale, 3)
	lives(t, two, 5)
	registers(t, two, 5, "new")
	isWhose(t, one, 3+above, "new")
	drops(t, two, 5, "d", "new")
	isWhose(t, one, 3+above, "new")
}

func TestTablesAtOnceAgree(t *testing.T) {
	var group sync.WaitGroup
	var ends [8][]string
	for i := range ends {
		group.Add(1)
		go func() {
			defer group.Done()
			tab, _ := ptab.New(20)
			for step := range 3000 {
				pid, err := tab.Add()
				ends[i] = append(ends[i], told(err, string(rune(pid+2))))
				ends[i] = append(ends[i], told(tab.Register(filler(step*step%200), pid)))
				gone, err := tab.Drop(pid - int64(step%20))
				ends[i] = append(ends[i], told(err, gone...))
			}
		}()
	}
	group.Wait()
	for i, texts := range ends {
		if !slices.Equal(texts, ends[0]) {
			t.Errorf("%d: not as the first", i)
		}
	}
}

// inUse is how many bytes are reached.
func inUse() int {
	var m runtime.MemStats
	runtime.GC()
	runtime.ReadMemStats(&m)
	return int(m.HeapAlloc)
}

// few is so little that what must not be kept here is far more.
const few = 1 << 20

// A name may be a piece of a text.
func TestTheTextOfANameIsNotKept(t *testing.T) {
	before := inUse()
	tab := filled(t, 1, 1)
	for i := range api.MaxNames {
		text := strings.Repeat(filler(i)+" ", 1<<18)
		registers(t, tab, 0, text[:len(filler(i))])
	}
	if grown := inUse() - before; grown > few {
		t.Errorf("%d bytes for %d names", grown, api.MaxNames)
	}
	noRegister(t, tab, api.ErrFull, 0, "more")
}

func TestWhoIsGoneIsNotKept(t *testing.T) {
	before := inUse()
	tab := filled(t, 2, 1)
	long := strings.Repeat("l", 240)
	for i := range int64(1 << 14) {
		pid, _ := tab.Add()
		tab.Register(long+filler(int(i)), pid)
		tab.Register("to take back", 0)
		tab.Unregister("to take back")
		if _, err := tab.Drop(1 + i*above); err != nil {
			t.Fatal(err)
		}
	}
	if grown := inUse() - before; grown > few {
		t.Errorf("%d bytes for one who is there", grown)
	}
	isTable(t, tab, []int64{0})
}
