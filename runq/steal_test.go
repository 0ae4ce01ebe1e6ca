package runq_test

import (
	"math/rand"
	"testing"

	"troupe/api"
)

// P16.3, Steal

func TestStealTakesTheLastOfTheGreatestPrio(t *testing.T) {
	q := filled(t, 2, 3)
	for _, c := range []struct {
		prio int
		pid  int64
	}{{2, 22}, {2, 21}, {2, 20}, {1, 12}, {1, 11}, {1, 10}, {0, 2}, {0, 1}, {0, 0}} {
		steals(t, q, 1, 0, c.prio, c.pid)
	}
	isList(t, q, 1, 100, 101, 102, 2, 1, 0, 110, 111, 112, 12, 11, 10, 120, 121, 122, 22, 21, 20)
	noSteal(t, q, api.ErrNone, 1, 0)
	noPop(t, q, api.ErrNone, 0)
}

// From each worker to each other one, with those of each prio alone.
func TestStealFromEachToEach(t *testing.T) {
	const workers = 4
	for thief := range workers {
		for from := range workers {
			for prio := range api.MaxPrio {
				q := fresh(t, workers)
				pushes(t, q, from, prio, 70)
				pushes(t, q, from, prio, 71)
				if thief == from {
					noSteal(t, q, api.ErrArg, thief, from)
					continue
				}
				steals(t, q, thief, from, prio, 71)
				steals(t, q, thief, from, prio, 70)
				noSteal(t, q, api.ErrNone, thief, from)
				isList(t, q, thief, 71, 70)
				pops(t, q, thief, 71, 70)
			}
		}
	}
}

// What is stolen goes behind those who stand there, and others go behind it.
func TestStealGoesToTheEndOfItsPrio(t *testing.T) {
	for prio, want := range [][]int64{
		{0, 1, 70, 8, 10, 11, 20, 21},
		{0, 1, 10, 11, 70, 8, 20, 21},
		{0, 1, 10, 11, 20, 21, 70, 8},
	} {
		q := filled(t, 2, 2)
		pushes(t, q, 1, prio, 70)
		for of := prio + 1; of < api.MaxPrio; of++ {
			removes(t, q, int64(100+10*of), int64(101+10*of))
		}
		steals(t, q, 0, 1, prio, 70)
		pushes(t, q, 0, prio, 8)
		isList(t, q, 0, want...)
	}
}

func TestStealBackAndForth(t *testing.T) {
	q := fresh(t, 2)
	pushes(t, q, 0, 1, 1)
	pushes(t, q, 0, 1, 2)
	pushes(t, q, 0, 1, 3)
	for range 5 {
		steals(t, q, 1, 0, 1, 3)
		steals(t, q, 0, 1, 1, 3)
	}
	steals(t, q, 1, 0, 1, 3)
	steals(t, q, 1, 0, 1, 2)
	steals(t, q, 0, 1, 1, 2)
	isList(t, q, 0, 1, 2)
	isList(t, q, 1, 3)
}

func TestStealOfNoWorkers(t *testing.T) {
	for _, n := range []int{1, 2, 5, most} {
		q := filled(t, n, 2)
		for _, wrong := range append(far(), n, n+1) {
			for worker := range min(n, 3) {
				noSteal(t, q, api.ErrArg, wrong, worker)
				noSteal(t, q, api.ErrArg, worker, wrong)
			}
			noSteal(t, q, api.ErrArg, wrong, n-1)
			noSteal(t, q, api.ErrArg, n-1, wrong)
			noSteal(t, q, api.ErrArg, wrong, wrong)
			noSteal(t, q, api.ErrArg, wrong, -7)
		}
	}
}

func TestStealFromOneself(t *testing.T) {
	for _, each := range []int{0, 1, 2} { // nobody stands there: that is told behind it
		for _, n := range []int{1, 2, most} {
			q := filled(t, n, each)
			for worker := range n {
				noSteal(t, q, api.ErrArg, worker, worker)
			}
		}
	}
}

func TestStealWhereNobodyStands(t *testing.T) {
	q := fresh(t, 3)
	noSteal(t, q, api.ErrNone, 0, 1)
	for prio := range api.MaxPrio {
		pushes(t, q, 0, prio, int64(prio))
	}
	noSteal(t, q, api.ErrNone, 0, 1)
	noSteal(t, q, api.ErrNone, 2, 1)
	pushes(t, q, 1, 1, 70)
	pops(t, q, 1, 70)
	noSteal(t, q, api.ErrNone, 0, 1)
	pushes(t, q, 1, 0, 70)
	removes(t, q, 70)
	noSteal(t, q, api.ErrNone, 0, 1)
	noSteal(t, q, api.ErrArg, 3, 1)
}

// P16.3, Remove

// Of queues of so many, each one, wherever it stands, and then all others one by one.
func TestRemoveOfEach(t *testing.T) {
	const workers = 2
	for worker := range workers {
		for prio := range api.MaxPrio {
			for each := 1; each <= 5; each++ {
				for i := range each {
					q := filled(t, workers, each)
					removes(t, q, int64(100*worker+10*prio+i))
					for w := range workers {
						for p := range api.MaxPrio {
							pushes(t, q, w, p, 7777) // behind those who are left
							removes(t, q, 7777)
						}
					}
				}
			}
		}
	}
}

func TestRemoveInEveryOrder(t *testing.T) {
	for order := range 5 * 4 * 3 * 2 {
		q := filled(t, 1, 5)
		left := []int64{10, 11, 12, 13, 14}
		for rest, some := order, 5; some > 0; some-- {
			at := rest % some
			rest /= some
			removes(t, q, left[at])
			left = append(left[:at:at], left[at+1:]...)
		}
		isList(t, q, 0, 0, 1, 2, 3, 4, 20, 21, 22, 23, 24)
		pushes(t, q, 0, 1, 12)
		isList(t, q, 0, 0, 1, 2, 3, 4, 12, 20, 21, 22, 23, 24)
	}
}

func TestRemoveOfOneWhoStandsNowhere(t *testing.T) {
	q := fresh(t, 2)
	isNowhere(t, q, odd()...)
	q = filled(t, 2, 3)
	isNowhere(t, q, -1, 3, 4, 9, 13, 23, 99, 103, 123, 200, 1<<32, 1<<32+1)
	pops(t, q, 0, 0)
	removes(t, q, 11)
	isNowhere(t, q, 0, 11)
	sound(t, q, 2)
}

// One who was removed may be pushed anew, anywhere, and stands at the end.
func TestRemovedIsPushedAnew(t *testing.T) {
	for worker := range 2 {
		for prio := range api.MaxPrio {
			q := filled(t, 2, 3)
			for i, pid := range []int64{0, 11, 22, 101, 110, 122} {
				removes(t, q, pid)
				pushes(t, q, worker, prio, pid)
				isLen(t, q, 18)
				if i%2 > 0 {
					removes(t, q, pid)
					pushes(t, q, 1-worker, (prio+1)%api.MaxPrio, pid)
				}
			}
			sound(t, q, 2)
		}
	}
}

// P16.3, Where, List, Len

func TestWhereBehindEach(t *testing.T) {
	for prio := range api.MaxPrio {
		q := fresh(t, 3)
		isNowhere(t, q, 70)
		pushes(t, q, 2, prio, 70)
		isAt(t, q, 2, prio, 70)
		steals(t, q, 0, 2, prio, 70)
		isAt(t, q, 0, prio, 70)
		pops(t, q, 0, 70)
		isNowhere(t, q, 70)
		pushes(t, q, 1, prio, 70)
		removes(t, q, 70)
		isNowhere(t, q, 70)
		pushes(t, q, 0, 0, 70)
		isAt(t, q, 0, 0, 70)
	}
}

func TestListIsByPrioThenInOrder(t *testing.T) {
	for seed := range int64(20) {
		q := fresh(t, 2)
		var want [api.MaxPrio][]int64
		for i, at := range rand.New(rand.NewSource(seed)).Perm(30) {
			prio := at % api.MaxPrio
			pid := int64(at*1000 - i)
			pushes(t, q, 1, prio, pid)
			want[prio] = append(want[prio], pid)
		}
		isList(t, q, 1, append(append(want[0], want[1]...), want[2]...)...)
		isList(t, q, 0)
	}
}

// With some of the queues empty.
func TestListOfSomePrios(t *testing.T) {
	for some := range 1 << api.MaxPrio {
		q := fresh(t, 1)
		var want []int64
		for prio := range api.MaxPrio {
			if some>>prio&1 > 0 {
				pushes(t, q, 0, prio, int64(-prio))
				pushes(t, q, 0, prio, int64(10-prio))
				want = append(want, int64(-prio), int64(10-prio))
			}
		}
		isList(t, q, 0, want...)
	}
}

func TestListOfNoWorker(t *testing.T) {
	for _, n := range []int{1, 2, 5, most} {
		q := filled(t, n, 2)
		for _, worker := range append(far(), n, n+1) {
			steady(t, q, func() {
				if list := q.List(worker); len(list) > 0 {
					t.Fatalf("List(%d): %d", worker, list)
				}
			})
		}
	}
}

func TestLenBehindEach(t *testing.T) {
	q := filled(t, most, 3)
	isLen(t, q, 9*most)
	steals(t, q, 5, 6, 2, 622)
	isLen(t, q, 9*most)
	pops(t, q, 5, 500)
	isLen(t, q, 9*most-1)
	removes(t, q, 622)
	isLen(t, q, 9*most-2)
	noPush(t, q, api.ErrTaken, 1, 1, 111)
	isNowhere(t, q, 622)
	isLen(t, q, 9*most-2)
	for worker := range most {
		for len(q.List(worker)) > 0 {
			n := q.Len()
			if _, err := q.Pop(worker); err != nil {
				t.Fatal(err)
			}
			isLen(t, q, n-1)
		}
	}
	isLen(t, q, 0)
}
