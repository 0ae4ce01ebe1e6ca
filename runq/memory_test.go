package runq_test

import (
	"runtime"
	"slices"
	"sync"
	"testing"

	"troupe/api"
	"troupe/runq"
)

// scrawl turns each number of a list, and each of its room.
func scrawl(list []int64) {
	list = list[:cap(list)]
	for i := range list {
		list[i] = 6666
	}
}

// R3

func TestWhatIsToldIsNobodyElses(t *testing.T) {
	for each := range 10 {
		q := filled(t, 2, each)
		want := q.List(1)
		for range 2 {
			scrawl(q.List(0))
			scrawl(q.List(1))
			isList(t, q, 1, want...)
		}
		if each > 0 {
			pushes(t, q, 1, 2, 70)
			want = append(want, 70)
			scrawl(q.List(1))
			steals(t, q, 0, 1, 2, 70)
			scrawl(q.List(0))
			isList(t, q, 1, want[:len(want)-1]...)
			pops(t, q, 1, 100)
			scrawl(q.List(1))
			isList(t, q, 1, want[1:len(want)-1]...)
		}
		sound(t, q, 2)
	}
}

// What was told does not turn with the queues, nor with what is told later.
func TestWhatWasToldStays(t *testing.T) {
	for each := 1; each < 10; each++ {
		q := filled(t, 2, each)
		lists := [][]int64{q.List(0), q.List(1), q.List(0)}
		var kept [][]int64
		for _, list := range lists {
			kept = append(kept, slices.Clone(list[:cap(list)]))
		}
		pushes(t, q, 0, 0, 70)
		pops(t, q, 0, 0)
		steals(t, q, 0, 1, 2, int64(119+each))
		removes(t, q, 10)
		scrawl(q.List(0))
		scrawl(q.List(1))
		for i, list := range lists {
			if !slices.Equal(list[:cap(list)], kept[i]) {
				t.Fatalf("%d, and was %d", list[:cap(list)], kept[i])
			}
		}
	}
}

// R4

func TestTwoQueuesHaveNothingInCommon(t *testing.T) {
	one, two := filled(t, 2, 2), filled(t, 2, 2)
	pops(t, one, 0, 0, 1, 10)
	steals(t, one, 0, 1, 2, 121)
	removes(t, one, 110)
	pushes(t, one, 1, 1, 70)
	isList(t, two, 0, 0, 1, 10, 11, 20, 21)
	isList(t, two, 1, 100, 101, 110, 111, 120, 121)
	isLen(t, two, 12)
	isNowhere(t, two, 70)
	pushes(t, two, 0, 2, 70)
	isAt(t, one, 1, 1, 70)
	removes(t, two, 70)
	isAt(t, one, 1, 1, 70)
	isList(t, one, 0, 11, 20, 21, 121)
	removes(t, one, one.List(0)...)
	goOn(t, one, 0, often-4)
	removes(t, two, two.List(0)...)
	isTurn(t, two, 0, false) // the other's Pops don't count
	isTurn(t, one, 0, true)
}

func TestQueuesAtOnceAgree(t *testing.T) {
	var group sync.WaitGroup
	var all [8][]string
	for i := range all {
		group.Add(1)
		go func() {
			defer group.Done()
			r := newChance(11)
			q, _ := runq.New(r.workers)
			for range 3000 {
				all[i] = append(all[i], plain(q, r.call()), whole(q))
			}
		}()
	}
	group.Wait()
	for i, texts := range all {
		if !slices.Equal(texts, all[0]) {
			t.Errorf("%d: not as the first", i)
		}
	}
}

// inUse is how many bytes are reached.
func inUse() int {
	var m runtime.MemStats
	runtime.GC()
	runtime.ReadMemStats(&m)
	return int(m.HeapAlloc)
}

// few is so little that what must not be kept here is far more.
const few = 1 << 20

func TestWhoIsGoneIsNotKept(t *testing.T) {
	before := inUse()
	q := fresh(t, 3)
	pushes(t, q, 2, 2, -1)
	for pid := range int64(1 << 18) {
		if err := q.Push(0, int(pid%api.MaxPrio), pid); err != nil {
			t.Fatal(err)
		}
		q.Steal(1, 0)
		q.Steal(0, 1)
		if pid%2 == 0 && !q.Remove(pid) {
			t.Fatalf("Remove(%d): no", pid)
		}
		if got, err := q.Pop(0); pid%2 > 0 && (got != pid || err != nil) {
			t.Fatalf("Pop: %d, not %d: %v", got, pid, err)
		}
	}
	if grown := inUse() - before; grown > few {
		t.Errorf("%d bytes for one who stands", grown)
	}
	isList(t, q, 2, -1)
	isLen(t, q, 1)
}

// Many at once, of whom few are left, or none.
func TestRoomOfThoseWhoAreGoneIsNotKept(t *testing.T) {
	for _, left := range []int{0, 1, 100} {
		before := inUse()
		q := fresh(t, 3)
		const many = 1 << 18
		for pid := range int64(many) {
			if err := q.Push(int(pid%3), int(pid/3%api.MaxPrio), pid); err != nil {
				t.Fatal(err)
			}
		}
		for pid := int64(1); q.Len() > left; pid = (pid*5 + 1) % many { // each of them once
			if pid%2 == 0 {
				q.Remove(pid)
			} else {
				q.Pop(int(pid % 3))
			}
		}
		if grown := inUse() - before; grown > few {
			t.Errorf("%d bytes for %d who stand", grown, left)
		}
		sound(t, q, 3)
		isLen(t, q, left)
		runtime.KeepAlive(q)
	}
}

// Whoever goes, wherever it stands, is gone without a look at all others.
func TestManyStand(t *testing.T) {
	const many = 1 << 18
	q := fresh(t, 2)
	for pid := range int64(many) {
		if err := q.Push(0, 1, pid); err != nil {
			t.Fatal(err)
		}
	}
	for pid := int64(many / 4); pid < many*3/4; pid++ {
		if worker, prio, ok := q.Where(pid); worker != 0 || prio != 1 || !ok || !q.Remove(pid) {
			t.Fatalf("%d: %d, %d, %t", pid, worker, prio, ok)
		}
	}
	for pid := range int64(many / 4) {
		if got, err := q.Pop(0); got != pid || err != nil {
			t.Fatalf("Pop: %d, not %d: %v", got, pid, err)
		}
		if got, err := q.Steal(1, 0); got != many-1-pid || err != nil {
			t.Fatalf("Steal: %d, not %d: %v", got, many-1-pid, err)
		}
	}
	isList(t, q, 0)
	isLen(t, q, many/4)
}
