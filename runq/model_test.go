package runq_test

import (
	"math/rand"
	"slices"
	"strconv"
	"testing"

	"troupe/api"
	"troupe/runq"
)

// model is a plain list for each worker and prio, which are searched from their beginning, and does what the chapter's words say, as slowly as they say it.
type model struct {
	lists [][api.MaxPrio][]int64
	found []int // how many Pops of each worker found one
}

// newModel are empty lists.
func newModel(workers int) *model {
	return &model{make([][api.MaxPrio][]int64, workers), make([]int, workers)}
}

// isWorker tells whether there is such a worker.
func (m *model) isWorker(worker int) bool { return worker >= 0 && worker < len(m.lists) }

// where is where one stands: at which worker, of which prio, at which place; false, if nowhere.
func (m *model) where(pid int64) (worker, prio, place int, ok bool) {
	for worker, lists := range m.lists {
		for prio, list := range lists {
			for place, p := range list {
				if p == pid {
					return worker, prio, place, true
				}
			}
		}
	}
	return 0, 0, 0, false
}

// push adds one, or tells what is wrong.
func (m *model) push(worker, prio int, pid int64) api.Errno {
	if !m.isWorker(worker) || prio != 0 && prio != 1 && prio != 2 {
		return api.ErrArg
	}
	if _, _, _, ok := m.where(pid); ok {
		return api.ErrTaken
	}
	m.lists[worker][prio] = append(m.lists[worker][prio], pid)
	return api.OK
}

// prios are those that have one at a worker, rising.
func (m *model) prios(worker int) []int {
	var prios []int
	for prio, list := range m.lists[worker] {
		if len(list) > 0 {
			prios = append(prios, prio)
		}
	}
	return prios
}

// remove takes one away.
func (m *model) remove(pid int64) bool {
	worker, prio, place, ok := m.where(pid)
	if ok {
		m.lists[worker][prio] = slices.Delete(m.lists[worker][prio], place, place+1)
	}
	return ok
}

// pop takes one, or tells what is wrong.
func (m *model) pop(worker int) (int64, api.Errno) {
	if !m.isWorker(worker) {
		return -1, api.ErrArg
	}
	prios := m.prios(worker)
	if len(prios) == 0 {
		return -1, api.ErrNone
	}
	prio := prios[0]
	m.found[worker]++
	if m.found[worker]%8 == 0 {
		prio = prios[len(prios)-1]
	}
	pid := m.lists[worker][prio][0]
	m.remove(pid)
	return pid, api.OK
}

// steal moves one, or tells what is wrong.
func (m *model) steal(thief, from int) (int64, api.Errno) {
	if !m.isWorker(thief) || !m.isWorker(from) || thief == from {
		return -1, api.ErrArg
	}
	prios := m.prios(from)
	if len(prios) == 0 {
		return -1, api.ErrNone
	}
	prio := prios[len(prios)-1]
	list := m.lists[from][prio]
	pid := list[len(list)-1]
	m.remove(pid)
	m.lists[thief][prio] = append(m.lists[thief][prio], pid)
	return pid, api.OK
}

// list are all who stand at a worker.
func (m *model) list(worker int) []int64 {
	return slices.Concat(m.lists[worker][0], m.lists[worker][1], m.lists[worker][2])
}

// isAs asks whether queues say what the model says, of all who stand in them, and of some more.
func (m *model) isAs(t *testing.T, q *runq.Queues, more ...int64) {
	t.Helper()
	all := 0
	for worker := range m.lists {
		list := m.list(worker)
		isList(t, q, worker, list...)
		all += len(list)
		more = append(more, list...)
	}
	isLen(t, q, all)
	for _, pid := range more {
		worker, prio, _, ok := m.where(pid)
		if w, p, k := q.Where(pid); w != worker || p != prio || k != ok {
			t.Fatalf("Where(%d): %d, %d, %t, not %d, %d, %t", pid, w, p, k, worker, prio, ok)
		}
	}
	sound(t, q, len(m.lists))
}

// The calls that turn queues, or may be refused.
const (
	doPush = iota
	doPop
	doSteal
	doRemove
)

// call is one of them, and what it is of: a worker, and a prio or another worker.
type call struct {
	kind, worker, other int
	pid                 int64
}

// plain does one thing with queues, asks for nothing else, and tells the answer as a text.
func plain(q *runq.Queues, c call) string {
	switch c.kind {
	case doPush:
		return told(q.Push(c.worker, c.other, c.pid))
	case doPop:
		pid, err := q.Pop(c.worker)
		return number(pid) + told(err)
	case doSteal:
		pid, err := q.Steal(c.worker, c.other)
		return number(pid) + told(err)
	}
	return strconv.FormatBool(q.Remove(c.pid))
}

// told is an error as a text.
func told(err error) string {
	if f, ok := err.(*api.Fault); ok {
		return " " + f.Error() + " " + strconv.Itoa(f.N)
	}
	if err != nil {
		return " no Fault: " + err.Error()
	}
	return " done"
}

// refusal is what a kind is to be told as.
func refusal(op string, n int, kind api.Errno) string {
	if kind == api.OK {
		return told(nil)
	}
	return told(&api.Fault{Op: op, N: n, Err: kind})
}

// says does one thing with the model, and tells the answer as a text.
func (m *model) says(c call) string {
	switch c.kind {
	case doPush:
		return refusal("push", c.worker, m.push(c.worker, c.other, c.pid))
	case doPop:
		pid, kind := m.pop(c.worker)
		return number(pid) + refusal("pop", c.worker, kind)
	case doSteal:
		pid, kind := m.steal(c.worker, c.other)
		return number(pid) + refusal("steal", c.other, kind)
	}
	return strconv.FormatBool(m.remove(c.pid))
}

// both does one thing with queues and with the model, and holds the answers against each other.
func both(t *testing.T, q *runq.Queues, m *model, c call) {
	t.Helper()
	if got, want := plain(q, c), m.says(c); got != want {
		t.Fatalf("%d: %s, not %s", c, got, want)
	}
}

// All short scripts of one worker and of two, also shortly ahead of an eighth Pop.
func TestShortScriptsAreAsTheModelSays(t *testing.T) {
	one := []call{{doPush, 0, 0, 1}, {doPush, 0, 2, 2}, {doPush, 0, 1, 3}, {doPush, 0, 2, 4}, {doPop, 0, 0, 0}, {doRemove, 0, 0, 2}, {doRemove, 0, 0, 3}}
	two := []call{{doPush, 0, 0, 1}, {doPush, 0, 2, 2}, {doPush, 1, 2, 3}, {doPush, 1, 0, 1}, {doPop, 0, 0, 0}, {doPop, 1, 0, 0}, {doSteal, 0, 1, 0}, {doSteal, 1, 0, 0}, {doRemove, 0, 0, 2}}
	for _, c := range []struct {
		workers, length, popped int
		calls                   []call
	}{{1, 6, 0, one}, {1, 6, often - 2, one}, {2, 5, 0, two}, {2, 5, often - 1, two}} {
		all := 1
		for range c.length {
			all *= len(c.calls)
		}
		for script := range all {
			q, _ := runq.New(c.workers)
			m := newModel(c.workers)
			for range c.popped {
				both(t, q, m, call{doPush, 0, 1, 9})
				both(t, q, m, call{doPop, 0, 0, 0})
			}
			for rest, step := script, 0; step < c.length; step++ {
				both(t, q, m, c.calls[rest%len(c.calls)])
				rest /= len(c.calls)
			}
			m.isAs(t, q, 1, 2, 3, 4)
		}
	}
}

// chance makes scripts.
type chance struct {
	*rand.Rand
	workers int
	pids    []int64 // of whom they are
	pushes  int     // how many of a hundred calls push one
}

// newChance makes scripts of one worker or more, with few pids or many.
func newChance(seed int64) *chance {
	r := &chance{Rand: rand.New(rand.NewSource(seed)), pushes: 20 + int(seed*7)%40}
	r.workers = []int{1, 1, 2, 2, 3, 5, most}[r.Intn(7)]
	for range 2 + r.Intn(40) {
		r.pids = append(r.pids, int64(r.Intn(400)-100))
	}
	for range r.Intn(4) {
		r.pids = append(r.pids, odd()[r.Intn(len(odd()))])
	}
	return r
}

// worker is a worker by chance, mostly one that is there.
func (r *chance) worker() int {
	if r.Intn(60) == 0 {
		return append(far(), r.workers)[r.Intn(len(far())+1)]
	}
	return r.Intn(r.workers)
}

// prio is a prio by chance, mostly one that may be.
func (r *chance) prio() int {
	if r.Intn(60) == 0 {
		return append(far(), api.MaxPrio)[r.Intn(len(far())+1)]
	}
	return r.Intn(api.MaxPrio)
}

// pid is one by chance: mostly one of the few, so that they have to do with one another.
func (r *chance) pid() int64 {
	if r.Intn(50) == 0 {
		return int64(r.Uint64()) >> r.Intn(64)
	}
	return r.pids[r.Intn(len(r.pids))]
}

// call is a call by chance.
func (r *chance) call() call {
	if r.Intn(100) < r.pushes {
		return call{doPush, r.worker(), r.prio(), r.pid()}
	}
	switch dice := r.Intn(10); {
	case dice < 6:
		return call{doPop, r.worker(), 0, 0}
	case dice < 8:
		return call{doSteal, r.worker(), r.worker(), 0}
	}
	return call{doRemove, 0, 0, r.pid()}
}

// P16.4: nobody stands in two places; and all calls answer as the model does, over long scripts by chance.
func TestLongScriptsAreAsTheModelSays(t *testing.T) {
	for seed := range int64(400) {
		r := newChance(seed)
		q := fresh(t, r.workers)
		m := newModel(r.workers)
		for range 1000 {
			both(t, q, m, r.call())
			if r.Intn(50) == 0 {
				m.isAs(t, q, r.pids...)
			}
		}
		m.isAs(t, q, append(odd(), r.pids...)...)
		for worker := range r.workers {
			for range len(m.list(worker)) + 1 {
				both(t, q, m, call{doPop, worker, 0, 0})
			}
		}
		m.isAs(t, q, r.pids...)
	}
}

// Many stand, and then few: the queues are as long as they will.
func TestManyAreAsTheModelSays(t *testing.T) {
	for seed := range int64(6) {
		r := newChance(seed)
		q := fresh(t, r.workers)
		m := newModel(r.workers)
		for pid := range int64(1000) {
			both(t, q, m, call{doPush, r.Intn(r.workers), r.Intn(api.MaxPrio), pid*977%1000 - 300})
		}
		m.isAs(t, q)
		for q.Len() > 0 {
			both(t, q, m, call{[]int{doPop, doPop, doSteal, doRemove}[r.Intn(4)], r.Intn(r.workers), r.Intn(r.workers), r.Int63n(1000) - 300})
			if r.Intn(20) == 0 {
				m.isAs(t, q)
			}
		}
		m.isAs(t, q, 0, 1, 2)
	}
}

// P16.4: whoever stands at a worker is popped by it, whatever went ahead of it, as long as none comes in between.
func TestAllArePoppedBehindAnyScript(t *testing.T) {
	for seed := range int64(100) {
		r := newChance(1000 + seed)
		q := fresh(t, r.workers)
		for range 300 {
			plain(q, r.call())
		}
		for worker := range r.workers {
			here := len(q.List(worker))
			for range here {
				if _, err := q.Pop(worker); err != nil {
					t.Fatalf("Pop(%d): %v", worker, err)
				}
			}
			isList(t, q, worker)
		}
		isLen(t, q, 0)
	}
}

// R4: what is asked between turns nothing, and the same calls get the same answers again.
func TestScriptsAnswerTheSameAgain(t *testing.T) {
	for seed := range int64(30) {
		var all [3][]string
		other := fresh(t, most) // other queues' calls are nothing to these
		for i := range all {
			r := newChance(seed)
			q := fresh(t, r.workers)
			for step := range 500 {
				c := r.call()
				plain(other, c)
				all[i] = append(all[i], plain(q, c))
				plain(other, c)
				if i == 2 && step%20 == 0 {
					sound(t, q, r.workers)
					isNowhere(t, q, 1<<40)
				}
			}
		}
		if !slices.Equal(all[0], all[1]) || !slices.Equal(all[0], all[2]) {
			t.Fatalf("seed %d: not the same again", seed)
		}
	}
}
