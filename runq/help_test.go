package runq_test

import (
	"errors"
	"math"
	"slices"
	"strconv"
	"strings"
	"testing"

	"troupe/api"
	"troupe/runq"
)

const (
	most  = api.MaxWorkers
	often = 8 // each eighth Pop looks at the greatest prio first
)

// far are numbers that are no worker's of any Queues, and no prio.
func far() []int {
	return []int{-1, -2, -3, -most, most + 1, most + 2, 2 * most, 1 << 8, 1 << 16, 1<<31 - 1, 1 << 31, 1 << 32, 1<<32 + 1, -1 << 31, -1 << 32, 1 - 1<<32, math.MinInt, math.MinInt + 1, math.MaxInt, math.MaxInt - 1}
}

// odd are numbers of which some are not a process's.
func odd() []int64 {
	all := []int64{0, 1, 2, 3, 5, 63, 64, 65, math.MaxInt64, math.MaxInt64 - 1, math.MinInt64, math.MinInt64 + 1}
	for _, bit := range []int{8, 16, 31, 32, 33, 62} {
		n := int64(1) << bit
		all = append(all, n, n-1, n+1, -n, -n-1)
	}
	return append(all, -1, -2, -64)
}

// fresh are empty queues.
func fresh(t *testing.T, workers int) *runq.Queues {
	t.Helper()
	q, err := runq.New(workers)
	if q == nil || err != nil {
		t.Fatalf("New(%d): %v", workers, err)
	}
	for worker := range workers {
		isList(t, q, worker)
	}
	isLen(t, q, 0)
	return q
}

// filled are queues of so many workers, each with as many in each queue, ten at most, whose pids are of 100 times the worker and 10 times the prio.
func filled(t *testing.T, workers, each int) *runq.Queues {
	t.Helper()
	q := fresh(t, workers)
	for worker := range workers {
		for prio := range api.MaxPrio {
			for i := range each {
				pushes(t, q, worker, prio, int64(100*worker+10*prio+i))
			}
		}
	}
	return q
}

// isLen asks twice how many there are.
func isLen(t *testing.T, q *runq.Queues, n int) {
	t.Helper()
	for range 2 {
		if got := q.Len(); got != n {
			t.Fatalf("Len: %d, not %d", got, n)
		}
	}
}

// isList asks twice who stands at a worker, and asks each where it stands: there, those of a less prio ahead.
func isList(t *testing.T, q *runq.Queues, worker int, pids ...int64) {
	t.Helper()
	for range 2 {
		if got := q.List(worker); !slices.Equal(got, pids) {
			t.Fatalf("List(%d): %d, not %d", worker, got, pids)
		}
	}
	least := 0
	for _, pid := range pids {
		w, prio, ok := q.Where(pid)
		if w != worker || prio < least || prio >= api.MaxPrio || !ok {
			t.Fatalf("Where(%d): %d, %d, %t, but it stands at %d, behind one of prio %d", pid, w, prio, ok, worker, least)
		}
		least = prio
	}
}

// isAt asks twice where one stands.
func isAt(t *testing.T, q *runq.Queues, worker, prio int, pid int64) {
	t.Helper()
	for range 2 {
		if w, p, ok := q.Where(pid); w != worker || p != prio || !ok {
			t.Fatalf("Where(%d): %d, %d, %t, not %d, %d", pid, w, p, ok, worker, prio)
		}
	}
	if !slices.Contains(q.List(worker), pid) {
		t.Fatalf("List(%d): %d, without %d", worker, q.List(worker), pid)
	}
}

// isNowhere asks of those who stand in no queue; nothing is turned by it.
func isNowhere(t *testing.T, q *runq.Queues, pids ...int64) {
	t.Helper()
	for _, pid := range pids {
		steady(t, q, func() {
			if w, p, ok := q.Where(pid); w != 0 || p != 0 || ok {
				t.Fatalf("Where(%d): %d, %d, %t", pid, w, p, ok)
			}
			if q.Remove(pid) {
				t.Fatalf("Remove(%d): yes", pid)
			}
		})
	}
}

// number is a number as a text.
func number(n int64) string { return strconv.FormatInt(n, 10) }

// place is where one stands, as a text.
func place(q *runq.Queues, pid int64) string {
	worker, prio, ok := q.Where(pid)
	if !ok && (worker != 0 || prio != 0) {
		return "not zero"
	}
	return strconv.Itoa(worker) + "," + strconv.Itoa(prio) + strconv.FormatBool(ok)
}

// whole is all that queues say of all who stand in them, as a text.
func whole(q *runq.Queues) string {
	var said []string
	for worker := range most {
		for _, pid := range q.List(worker) {
			said = append(said, number(int64(worker))+":"+number(pid)+" "+place(q, pid))
		}
	}
	return strings.Join(said, " ") + " " + strconv.Itoa(q.Len())
}

// steady does what must turn nothing, and asks so.
func steady(t *testing.T, q *runq.Queues, what func()) {
	t.Helper()
	before := whole(q)
	what()
	if after := whole(q); after != before {
		t.Fatalf("turned: %s, and was %s", after, before)
	}
}

// sound asks whether nobody stands in two places, and each where it says.
func sound(t *testing.T, q *runq.Queues, workers int) {
	t.Helper()
	at := map[int64]int{}
	for worker := range workers {
		pids := q.List(worker)
		isList(t, q, worker, pids...)
		for _, pid := range pids {
			if other, there := at[pid]; there {
				t.Fatalf("%d stands at %d and at %d", pid, other, worker)
			}
			at[pid] = worker
		}
	}
	isLen(t, q, len(at))
}

// pushes pushes one who stands nowhere.
func pushes(t *testing.T, q *runq.Queues, worker, prio int, pid int64) {
	t.Helper()
	n, list := q.Len(), q.List(worker)
	if err := q.Push(worker, prio, pid); err != nil {
		t.Fatalf("Push(%d, %d, %d): %v", worker, prio, pid, err)
	}
	isLen(t, q, n+1)
	isAt(t, q, worker, prio, pid)
	place := 0 // behind all of its prio
	for place < len(list) && prioOf(q, list[place]) <= prio {
		place++
	}
	isList(t, q, worker, slices.Insert(list, place, pid)...)
}

// prioOf is the prio of the queue in which one stands.
func prioOf(q *runq.Queues, pid int64) int {
	_, prio, _ := q.Where(pid)
	return prio
}

// noPush pushes one that must be refused; nothing is turned by it.
func noPush(t *testing.T, q *runq.Queues, kind api.Errno, worker, prio int, pid int64) {
	t.Helper()
	steady(t, q, func() { refused(t, q.Push(worker, prio, pid), kind, "push", worker) })
}

// pops pops those in a row.
func pops(t *testing.T, q *runq.Queues, worker int, pids ...int64) {
	t.Helper()
	for _, pid := range pids {
		n, list := q.Len(), q.List(worker)
		if got, err := q.Pop(worker); got != pid || err != nil {
			t.Fatalf("Pop(%d): %d, not %d: %v", worker, got, pid, err)
		}
		isLen(t, q, n-1)
		isNowhere(t, q, pid)
		isList(t, q, worker, slices.DeleteFunc(list, func(p int64) bool { return p == pid })...)
	}
}

// noPop pops one where it must be refused; nothing is turned by it.
func noPop(t *testing.T, q *runq.Queues, kind api.Errno, workers ...int) {
	t.Helper()
	for _, worker := range workers {
		steady(t, q, func() {
			pid, err := q.Pop(worker)
			if pid != -1 {
				t.Fatalf("Pop(%d): %d", worker, pid)
			}
			refused(t, err, kind, "pop", worker)
		})
	}
}

// goOn lets a worker before whom nobody stands pop so many.
func goOn(t *testing.T, q *runq.Queues, worker, n int) {
	t.Helper()
	isList(t, q, worker)
	for i := range n {
		pushes(t, q, worker, i%api.MaxPrio, 7777)
		pops(t, q, worker, 7777)
	}
}

// steals steals one, who must be this one, of this prio.
func steals(t *testing.T, q *runq.Queues, thief, from, prio int, pid int64) {
	t.Helper()
	n, list, others := q.Len(), q.List(thief), q.List(from)
	isAt(t, q, from, prio, pid)
	if got, err := q.Steal(thief, from); got != pid || err != nil {
		t.Fatalf("Steal(%d, %d): %d, not %d: %v", thief, from, got, pid, err)
	}
	isLen(t, q, n)
	isAt(t, q, thief, prio, pid)
	isList(t, q, from, slices.DeleteFunc(others, func(p int64) bool { return p == pid })...)
	place := 0
	for place < len(list) && prioOf(q, list[place]) <= prio {
		place++
	}
	isList(t, q, thief, slices.Insert(list, place, pid)...)
}

// noSteal steals where it must be refused; nothing is turned by it.
func noSteal(t *testing.T, q *runq.Queues, kind api.Errno, thief, from int) {
	t.Helper()
	steady(t, q, func() {
		pid, err := q.Steal(thief, from)
		if pid != -1 {
			t.Fatalf("Steal(%d, %d): %d", thief, from, pid)
		}
		refused(t, err, kind, "steal", from)
	})
}

// removes takes those away who stand somewhere; the others stand as they stood.
func removes(t *testing.T, q *runq.Queues, pids ...int64) {
	t.Helper()
	for _, pid := range pids {
		n := q.Len()
		worker, _, _ := q.Where(pid)
		var lists [most][]int64
		for w := range most {
			lists[w] = slices.DeleteFunc(q.List(w), func(p int64) bool { return p == pid && w == worker })
		}
		if !q.Remove(pid) {
			t.Fatalf("Remove(%d): no", pid)
		}
		isLen(t, q, n-1)
		isNowhere(t, q, pid)
		for w, list := range lists {
			isList(t, q, w, list...)
		}
	}
}

// refused asks for a chain of one Fault around a kind.
func refused(t *testing.T, err error, kind api.Errno, op string, n int) {
	t.Helper()
	f, ok := err.(*api.Fault)
	if !ok || f.Op != op || f.N != n || f.Err != error(kind) || !errors.Is(err, kind) {
		t.Fatalf("%v: not a Fault %q of %d around %v", err, op, n, kind)
	}
}
