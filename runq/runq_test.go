package runq_test

import (
	"math"
	"slices"
	"testing"

	"troupe/api"
	"troupe/fault"
	"troupe/runq"
)

// The chapter's example.
func TestExample(t *testing.T) {
	q := fresh(t, 2)
	pushes(t, q, 0, 1, 5)
	pushes(t, q, 0, 0, 6)
	pops(t, q, 0, 6)
	steals(t, q, 1, 0, 1, 5)
	isList(t, q, 1, 5)
	isList(t, q, 0)
}

// P16.1

func TestQueuesThatMayBe(t *testing.T) {
	for n := 1; n <= most; n++ {
		q := fresh(t, n)
		for worker := range n {
			pushes(t, q, worker, worker%api.MaxPrio, int64(worker))
		}
		noPush(t, q, api.ErrArg, n, 0, 9999)
		noPush(t, q, api.ErrArg, -1, 0, 9999)
		for worker := range n {
			isList(t, q, worker, int64(worker))
		}
	}
}

func TestQueuesThatMayNotBe(t *testing.T) {
	for _, n := range append(far(), 0) {
		q, err := runq.New(n)
		if q != nil {
			t.Errorf("New(%d): queues", n)
		}
		refused(t, err, api.ErrArg, "queues", n)
	}
}

func TestPushAtEachWorkerAndPrio(t *testing.T) {
	for _, n := range []int{1, 2, 3, most} {
		q := fresh(t, n)
		pid := int64(0)
		for range 3 {
			for worker := n - 1; worker >= 0; worker-- {
				for _, prio := range []int{2, 0, 1} {
					pushes(t, q, worker, prio, pid)
					pid++
				}
			}
		}
		first := int64(3 * (n - 1)) // of worker 0
		isList(t, q, 0, first+1, first+1+int64(3*n), first+1+int64(6*n), first+2, first+2+int64(3*n), first+2+int64(6*n), first, first+int64(3*n), first+int64(6*n))
		sound(t, q, n)
	}
}

func TestPushOfNoWorker(t *testing.T) {
	for _, n := range []int{1, 2, 5, most} {
		q := filled(t, n, 2)
		for _, worker := range append(far(), n, n+1) {
			for prio := range api.MaxPrio {
				noPush(t, q, api.ErrArg, worker, prio, 9999)
			}
		}
		isNowhere(t, q, 9999)
	}
}

func TestPushOfNoPrio(t *testing.T) {
	q := filled(t, 3, 2)
	for _, prio := range append(far(), 3, 4, 5, 6) {
		for worker := range 3 {
			noPush(t, q, api.ErrArg, worker, prio, 9999)
		}
	}
	isNowhere(t, q, 9999)
}

// Whichever worker's queue it is in, and of whichever prio.
func TestPushOfOneWhoStands(t *testing.T) {
	const workers = 3
	for at := range workers {
		for of := range api.MaxPrio {
			q := filled(t, workers, 3)
			for i := range int64(3) {
				pid := int64(100*at+10*of) + i
				for worker := range workers {
					for prio := range api.MaxPrio {
						noPush(t, q, api.ErrTaken, worker, prio, pid)
					}
				}
				isAt(t, q, at, of, pid)
			}
		}
	}
}

// Which of several wrongs is told: the chapter's order.
func TestTheFirstWrongIsTold(t *testing.T) {
	q := filled(t, 2, 1)
	for _, pid := range []int64{0, 10, 20, 110, 9999} { // all but the last one stand in a queue
		for _, wrong := range []int{-1, 2, 3, math.MinInt, math.MaxInt} {
			noPush(t, q, api.ErrArg, wrong, 0, pid)
			noPush(t, q, api.ErrArg, wrong, -1, pid)
			noPush(t, q, api.ErrArg, wrong, 3, pid)
		}
		for _, wrong := range []int{-1, 3, math.MinInt, math.MaxInt} {
			noPush(t, q, api.ErrArg, 0, wrong, pid)
			noPush(t, q, api.ErrArg, 1, wrong, pid)
		}
	}
	noPush(t, q, api.ErrTaken, 0, 1, 110)
	pushes(t, q, 0, 1, 9999)
}

func TestAPidMayBeAnyNumber(t *testing.T) {
	for _, pid := range odd() {
		q := fresh(t, 2)
		isNowhere(t, q, pid)
		pushes(t, q, 0, 2, pid)
		noPush(t, q, api.ErrTaken, 1, 0, pid)
		steals(t, q, 1, 0, 2, pid)
		pops(t, q, 1, pid)
		pushes(t, q, 1, 1, pid)
		removes(t, q, pid)
		pushes(t, q, 0, 0, pid)
		isList(t, q, 0, pid)
	}
	q := fresh(t, 3)
	for i, pid := range odd() {
		pushes(t, q, i%3, i%2, pid)
	}
	for i, pid := range odd() {
		isAt(t, q, i%3, i%2, pid)
		noPush(t, q, api.ErrTaken, 2, 2, pid)
	}
	sound(t, q, 3)
	removes(t, q, odd()...)
	isLen(t, q, 0)
}

// One is refused as long as it stands in a queue, and no longer.
func TestOneIsPushedAnewOnceItIsGone(t *testing.T) {
	q := filled(t, 2, 1)
	for i := range 20 {
		worker, prio := i%2, i%api.MaxPrio
		pushes(t, q, worker, prio, 5)
		noPush(t, q, api.ErrTaken, 1-worker, prio, 5)
		noPush(t, q, api.ErrTaken, worker, prio, 5)
		removes(t, q, 5)
	}
	one := fresh(t, 2)
	for i := range 20 {
		pushes(t, one, 0, i%api.MaxPrio, 5)
		noPush(t, one, api.ErrTaken, 1, 0, 5)
		steals(t, one, 1, 0, i%api.MaxPrio, 5)
		noPush(t, one, api.ErrTaken, 0, 0, 5)
		pops(t, one, 1, 5)
	}
}

// P16.1, P16.2, P16.3: each refusal is a chain of one Fault around a kind.
func TestChains(t *testing.T) {
	q := fresh(t, 9)
	pushes(t, q, 8, 2, 70)
	_, queues := runq.New(65)
	_, popNone := q.Pop(7)
	_, popArg := q.Pop(-9)
	_, stealNone := q.Steal(8, 6)
	_, stealSame := q.Steal(8, 8)
	_, stealThief := q.Steal(9, 8)
	_, stealFrom := q.Steal(8, 11)
	_, stealBoth := q.Steal(-1, -2)
	for _, c := range []struct {
		err  error
		kind api.Errno
		op   string
		n    int
		text string
	}{
		{queues, api.ErrArg, "queues", 65, "queues: argument"},
		{q.Push(9, 0, 1), api.ErrArg, "push", 9, "push: argument"},
		{q.Push(-5, 3, 70), api.ErrArg, "push", -5, "push: argument"},
		{q.Push(4, 3, 1), api.ErrArg, "push", 4, "push: argument"},
		{q.Push(3, 0, 70), api.ErrTaken, "push", 3, "push: taken"},
		{popNone, api.ErrNone, "pop", 7, "pop: none"},
		{popArg, api.ErrArg, "pop", -9, "pop: argument"},
		{stealNone, api.ErrNone, "steal", 6, "steal: none"},
		{stealSame, api.ErrArg, "steal", 8, "steal: argument"},
		{stealThief, api.ErrArg, "steal", 8, "steal: argument"},
		{stealFrom, api.ErrArg, "steal", 11, "steal: argument"},
		{stealBoth, api.ErrArg, "steal", -2, "steal: argument"},
	} {
		n, there := fault.Number(c.err, c.op)
		if !there || n != c.n || fault.Kind(c.err) != c.kind || !fault.Is(c.err, c.kind) || c.err.Error() != c.text || !slices.Equal(fault.Path(c.err), []string{c.op}) {
			t.Errorf("%v of %d: not %q of %d", c.err, n, c.text, c.n)
		}
	}
	isList(t, q, 8, 70)
	isLen(t, q, 1)
}
