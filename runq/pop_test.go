package runq_test

import (
	"testing"

	"troupe/api"
	"troupe/runq"
)

// P16.2

func TestPopByPrioThenInOrder(t *testing.T) {
	q := fresh(t, 2)
	for i, prio := range []int{2, 1, 0, 1, 2, 0, 1} {
		pushes(t, q, 1, prio, int64(i))
	}
	pops(t, q, 1, 2, 5, 1, 3, 6, 0, 4)
	noPop(t, q, api.ErrNone, 1, 0)
}

// One who comes later goes ahead of those of a greater prio, and behind those of its own.
func TestPopBetweenPushes(t *testing.T) {
	q := fresh(t, 1)
	pushes(t, q, 0, 2, 1)
	pushes(t, q, 0, 1, 2)
	pushes(t, q, 0, 1, 3)
	pops(t, q, 0, 2)
	pushes(t, q, 0, 0, 4)
	pushes(t, q, 0, 1, 2)
	pops(t, q, 0, 4, 3)
	pushes(t, q, 0, 2, 5)
	pops(t, q, 0, 2, 1, 5)
	noPop(t, q, api.ErrNone, 0)
}

// At each prio alone: the eighth time too.
func TestPopOfOnePrioIsInOrder(t *testing.T) {
	for prio := range api.MaxPrio {
		q := fresh(t, 2)
		for pid := range int64(40) {
			pushes(t, q, 1, prio, pid)
		}
		for pid := range int64(40) {
			pops(t, q, 1, pid)
		}
	}
}

func TestEachEighthPopTakesOneOfTheGreatestPrio(t *testing.T) {
	for _, prios := range [][2]int{{0, 1}, {0, 2}, {1, 2}} {
		q := fresh(t, 1)
		for i := range int64(100) {
			pushes(t, q, 0, prios[1], 1000+i)
			pushes(t, q, 0, prios[0], i)
		}
		least, greatest := int64(0), int64(1000)
		for n := 1; n <= 100; n++ {
			if n%often == 0 {
				pops(t, q, 0, greatest)
				greatest++
			} else {
				pops(t, q, 0, least)
				least++
			}
		}
	}
}

func TestPopOfAllThreePrios(t *testing.T) {
	q := fresh(t, 3)
	for i := range int64(12) {
		for prio := range api.MaxPrio {
			pushes(t, q, 2, prio, 100*int64(prio)+i)
		}
	}
	pops(t, q, 2, 0, 1, 2, 3, 4, 5, 6, 200)
	pops(t, q, 2, 7, 8, 9, 10, 11, 100, 101, 201)
	pops(t, q, 2, 102, 103, 104, 105, 106, 107, 108, 202)
	pops(t, q, 2, 109, 110, 111, 203, 204, 205, 206, 207)
	pops(t, q, 2, 208, 209, 210, 211)
	noPop(t, q, api.ErrNone, 2)
}

// The eighth looks at those who are there then.
func TestTheGreatestPrioThatHasOne(t *testing.T) {
	for greatest := range api.MaxPrio {
		for least := range greatest + 1 {
			q := fresh(t, 1)
			goOn(t, q, 0, often-1)
			for i := range int64(2) {
				pushes(t, q, 0, least, 10+i)
				pushes(t, q, 0, greatest, 20+i)
			}
			if least == greatest {
				pops(t, q, 0, 10, 20, 11, 21)
			} else {
				pops(t, q, 0, 20, 10, 11, 21)
			}
		}
	}
}

// isTurn asks whose turn it is at a worker before whom nobody stands, by a Pop that finds one: mostly that of the least prio, the eighth time that of the greatest.
func isTurn(t *testing.T, q *runq.Queues, worker int, eighth bool) {
	t.Helper()
	isList(t, q, worker)
	for prio := range api.MaxPrio {
		pushes(t, q, worker, prio, 8880+int64(prio))
	}
	if eighth {
		pops(t, q, worker, 8882)
		removes(t, q, 8880, 8881)
	} else {
		pops(t, q, worker, 8880)
		removes(t, q, 8881, 8882)
	}
}

// The 8th, the 16th, the 24th ..
func TestEachEighthOfManyPops(t *testing.T) {
	for n := range 10 * often {
		q := fresh(t, 2)
		goOn(t, q, 1, n)
		isTurn(t, q, 1, n%often == often-1)
		isTurn(t, q, 0, false)
	}
	q := fresh(t, 1)
	for n := 1; n <= 1000; n++ {
		isTurn(t, q, 0, n%often == 0)
	}
}

func TestAPopThatFindsNobodyCountsForNothing(t *testing.T) {
	q := fresh(t, 2)
	for n := 1; n <= 40; n++ {
		for range n % 11 {
			noPop(t, q, api.ErrNone, 0, 1)
			noPop(t, q, api.ErrArg, 2, -1)
		}
		isTurn(t, q, 0, n%often == 0)
	}
	isTurn(t, q, 1, false)
}

func TestEachWorkerCountsForItself(t *testing.T) {
	q := fresh(t, most)
	for round := 1; round <= 2*often; round++ {
		for worker := range most {
			for n := range worker % 5 {
				isTurn(t, q, worker, ((round-1)*(worker%5)+n+1)%often == 0)
			}
		}
	}
}

func TestOnlyPopsCount(t *testing.T) {
	q := fresh(t, 3)
	for n := 1; n <= 3*often; n++ {
		for i := range int64(n % 10) {
			pushes(t, q, 1, 1, 500+i) // neither a Push, nor a Steal by it, from it, nor a Remove
			steals(t, q, 0, 1, 1, 500+i)
			steals(t, q, 1, 0, 1, 500+i)
			noPush(t, q, api.ErrTaken, 1, 1, 500+i)
			noSteal(t, q, api.ErrArg, 1, 1)
			noSteal(t, q, api.ErrNone, 1, 2)
			removes(t, q, 500+i)
			isNowhere(t, q, 500+i)
			isList(t, q, 1)
		}
		isTurn(t, q, 1, n%often == 0)
	}
	isTurn(t, q, 0, false)
	isTurn(t, q, 2, false)
}

// The turn stays a worker's when nobody is left at the time.
func TestTheEighthWaits(t *testing.T) {
	q := fresh(t, 2)
	goOn(t, q, 0, often-1)
	for prio := range api.MaxPrio {
		pushes(t, q, 0, prio, int64(prio))
	}
	steals(t, q, 1, 0, 2, 2)
	removes(t, q, 1, 0)
	for range 20 {
		noPop(t, q, api.ErrNone, 0)
	}
	pops(t, q, 1, 2)
	isTurn(t, q, 1, false)
	isTurn(t, q, 0, true)
	isTurn(t, q, 0, false)
}

func TestPopOfNoWorker(t *testing.T) {
	for _, n := range []int{1, 2, 5, most} {
		q := fresh(t, n)
		noPop(t, q, api.ErrArg, append(far(), n, n+1)...)
		q = filled(t, n, 2)
		noPop(t, q, api.ErrArg, append(far(), n, n+1)...)
	}
}

func TestPopWhereNobodyStands(t *testing.T) {
	q := fresh(t, 3)
	noPop(t, q, api.ErrNone, 0, 1, 2)
	pushes(t, q, 1, 2, 5)
	noPop(t, q, api.ErrNone, 0, 2)
	pops(t, q, 1, 5)
	noPop(t, q, api.ErrNone, 0, 1, 2)
	pushes(t, q, 0, 0, 5)
	removes(t, q, 5)
	noPop(t, q, api.ErrNone, 0, 1, 2)
	pushes(t, q, 0, 1, 5)
	steals(t, q, 2, 0, 1, 5)
	noPop(t, q, api.ErrNone, 0, 1)
	pops(t, q, 2, 5)
}

// P16.4

// waits is behind how many Pops a pid is popped by its worker; who is popped ahead of it goes back to the end of its own queue, if so.
func waits(t *testing.T, q *runq.Queues, worker int, pid int64, back bool, limit int) int {
	t.Helper()
	for n := 1; n <= limit; n++ {
		next := map[int64]int{}
		for _, other := range q.List(worker) {
			next[other] = prioOf(q, other)
		}
		got, err := q.Pop(worker)
		if err != nil || got == pid {
			return n
		}
		if back {
			pushes(t, q, worker, next[got], got)
		}
	}
	return limit + 1
}

// crowds are how many stand in each queue: few and many, all combinations.
func crowds() [][api.MaxPrio]int {
	var all [][api.MaxPrio]int
	counts := []int{0, 1, 2, 5, 9}
	for _, a := range counts {
		for _, b := range counts {
			for _, c := range counts {
				all = append(all, [api.MaxPrio]int{a, b, c})
			}
		}
	}
	return all
}

// crowded are queues with a crowd at worker 0, which has popped some already; some others come, then one of that prio, whose pid is 0.
func crowded(t *testing.T, crowd [api.MaxPrio]int, prio, popped int) *runq.Queues {
	t.Helper()
	q := fresh(t, 1)
	goOn(t, q, 0, popped)
	for of, n := range crowd {
		for i := range n {
			if of == prio && i == n-n/3 {
				pushes(t, q, 0, prio, 0)
			}
			pushes(t, q, 0, of, int64(1+100*of+i))
		}
	}
	if _, _, ok := q.Where(0); !ok {
		pushes(t, q, 0, prio, 0)
	}
	return q
}

// As long as none comes in between, and the pid is not stolen.
func TestNobodyWaitsForEver(t *testing.T) {
	for _, crowd := range crowds() {
		others := crowd[0] + crowd[1] + crowd[2]
		for prio := range api.MaxPrio {
			for popped := range often {
				q := crowded(t, crowd, prio, popped)
				if n := waits(t, q, 0, 0, false, often*(others+1)); n > others+1 {
					t.Fatalf("%d: one of prio %d waits for %d Pops", crowd, prio, n)
				}
			}
		}
	}
}

// Also when all who are popped go back to the end, but one who stands between: those of the least prio are ahead of it seven times, those of the greatest the eighth time.
func TestNobodyWaitsForEverForThoseWhoComeBack(t *testing.T) {
	for _, crowd := range crowds() {
		others := crowd[0] + crowd[1] + crowd[2]
		for prio := range api.MaxPrio {
			between := prio == 1 && crowd[0] > 0 && crowd[2] > 0
			for popped := range often {
				q := crowded(t, crowd, prio, popped)
				limit := often * (others + 1)
				if n := waits(t, q, 0, 0, true, limit); (n > limit) != between {
					t.Fatalf("%d: one of prio %d waits for %d Pops, with %d others", crowd, prio, n, others)
				}
			}
		}
	}
}
