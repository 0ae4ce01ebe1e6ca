package wheel_test

import (
	"runtime"
	"slices"
	"sync"
	"testing"

	"troupe/wheel"
)

// scrawl turns each number of a list, and each of its room.
func scrawl(ids []int64) {
	ids = ids[:cap(ids)]
	for i := range ids {
		ids[i] = 6666
	}
}

// mixed is a wheel with timers in every part of it, of which n stand at one time.
func mixed(t *testing.T, n int) *wheel.Wheel {
	t.Helper()
	w := freshAt(t, most, 60)
	for id := range int64(n) {
		starts(t, w, 3, id, id)
	}
	for i, ticks := range []int{0, 1, 3, 4, 70, 5000, 1 << 18, 1 << 24, longest} {
		starts(t, w, ticks, int64(i), int64(n+i))
	}
	return w
}

// R3

func TestTickTellsNewMemory(t *testing.T) {
	for n := range 40 {
		w, m := mixed(t, n), mixed(t, n)
		for _, step := range []int{0, 1, 2, 1, 100, 10000, stretch, stretch, 3} {
			ids, same := w.Tick(step), m.Tick(step)
			if !slices.Equal(ids, same) {
				t.Fatalf("Tick(%d): %d, not %d", step, ids, same)
			}
			all := slices.Clone(ids[:cap(ids)])
			w.Start(1, 0)
			m.Start(1, 0)
			w.Tick(1)
			m.Tick(1)
			if !slices.Equal(ids[:cap(ids)], all) {
				t.Fatalf("a Tick's ids: %d, turned to %d", all, ids[:cap(ids)])
			}
			scrawl(ids)
			isWheel(t, w, m.Now(), m.Len())
			for id := range int64(n + 20) {
				left, _ := m.Left(id)
				what, err := m.What(id)
				if err != nil {
					isGone(t, w, id)
				} else {
					isThere(t, w, id, left, what)
				}
			}
		}
	}
}

func TestTicksShareNothing(t *testing.T) {
	w := mixed(t, 30)
	one := w.Tick(2)
	two := w.Tick(1)
	kept := slices.Clone(two)
	scrawl(one)
	if !slices.Equal(two, kept) {
		t.Fatalf("%d, not %d", two, kept)
	}
	three := w.Tick(stretch)
	scrawl(two)
	if !slices.Equal(three, []int64{33, 34, 35, 36}) {
		t.Fatalf("%d", three)
	}
}

// R4

func TestTwoWheelsHaveNothingInCommon(t *testing.T) {
	one, two := mixed(t, 5), mixed(t, 5)
	ticks(t, one, 2, 5, 6)
	cancels(t, one, 0, 1)
	cancels(t, one, 9, 68)
	starts(t, one, 1, 99, 14)
	ticks(t, one, 1, 1, 2, 3, 4, 7, 14)
	isWheel(t, two, 60, 14)
	for id := range int64(5) {
		isThere(t, two, id, 3, id)
	}
	isGone(t, two, 14)
	isThere(t, two, 9, 70, 4)
	starts(t, two, 2, 98, 14)
	ticks(t, two, 3, 5, 6, 14, 0, 1, 2, 3, 4, 7)
}

func TestWheelsAtOnceAgree(t *testing.T) {
	var group sync.WaitGroup
	var ends [8][]int64
	for i := range ends {
		group.Add(1)
		go func() {
			defer group.Done()
			w, _ := wheel.New(most)
			for id := range int64(3000) {
				w.Start(int(id*id%5003), id)
				if id%3 == 0 {
					w.Cancel(id / 2)
				}
				ends[i] = append(ends[i], w.Tick(int(id%5))...)
			}
		}()
	}
	group.Wait()
	for i, ids := range ends {
		if len(ids) < 1000 || !slices.Equal(ids, ends[0]) {
			t.Errorf("%d: %d ids, not %d", i, len(ids), len(ends[0]))
		}
	}
}

// inUse is how many bytes are reached.
func inUse() int {
	var m runtime.MemStats
	runtime.GC()
	runtime.ReadMemStats(&m)
	return int(m.HeapAlloc)
}

// few is so little that as many timers as are started here are far more.
const few = 1 << 20

func TestCancelledTimersAreNotKept(t *testing.T) {
	before := inUse()
	w := fresh(t, 2)
	w.Start(longest, 0)
	for id := range int64(1 << 17) {
		w.Start([]int{0, 9, 700, 70000, 1 << 23, longest}[id%6], id)
		w.Cancel(id + 1)
	}
	if grown := inUse() - before; grown > few {
		t.Errorf("%d bytes for one timer", grown)
	}
	isWheel(t, w, 0, 1)
	isThere(t, w, 0, longest, 0)
}

func TestExpiredTimersAreNotKept(t *testing.T) {
	before := inUse()
	w := fresh(t, 2)
	w.Start(longest, 0)
	for id := range int64(1 << 17) {
		w.Start(int(id%70), id)
		w.Tick(int(id % 70))
	}
	if grown := inUse() - before; grown > few {
		t.Errorf("%d bytes for one timer", grown)
	}
	isThere(t, w, 0, longest-w.Now(), 0)
	isWheel(t, w, w.Now(), 1)
}
