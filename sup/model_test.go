package sup_test

import (
	"math"
	"math/big"
	"math/rand"
	"slices"
	"strings"
	"testing"

	"troupe/api"
	"troupe/sup"
)

// model does what the chapter's words say by plain lists, as slowly as they say it.
type model struct {
	spec        api.Spec
	isNew, done bool
	up, gone    []int
	notes       []int // of all restarts
	toStop      []int // whose turn is still to come, the next one first
	toStart     []int // behind them
	ending      bool  // it exits behind them
	halting     int   // who is being stopped; -1: nobody is
	since       int   // the now of its ActStop
	wasKilled   bool
}

// newModel has done nothing.
func newModel(s api.Spec) *model { return &model{spec: s, isNew: true, halting: -1} }

// without is a list without one.
func without(list []int, one int) []int {
	return slices.DeleteFunc(slices.Clone(list), func(c int) bool { return c == one })
}

// backward is a list from its end on.
func backward(list []int) []int {
	list = slices.Clone(list)
	slices.Reverse(list)
	return list
}

// less is one number less another, whatever they are.
func less(a, b int) *big.Int {
	return new(big.Int).Sub(big.NewInt(int64(a)), big.NewInt(int64(b)))
}

// starts starts some, in order.
func (m *model) starts(some []int) []api.Act {
	m.up = append(slices.Clone(m.up), some...)
	slices.Sort(m.up)
	return starts(some...)
}

// begin is Begin.
func (m *model) begin() []api.Act {
	if !m.isNew {
		return nil
	}
	m.isNew = false
	return m.starts(count(0, len(m.spec.Children)))
}

// down is Down.
func (m *model) down(child int, normal bool, now int) []api.Act {
	if m.done || !slices.Contains(m.up, child) {
		return nil
	}
	m.up = without(m.up, child)
	m.isGone(child)
	if m.halting >= 0 {
		if child != m.halting {
			m.toStop = without(m.toStop, child)
			return nil
		}
		m.halting = -1
		return m.goOn(now)
	}
	kind := m.spec.Children[child].Restart
	if kind == api.Temporary || kind == api.Transient && normal {
		return nil
	}
	return m.restart(child, now)
}

// isGone notes that a child is gone, if it is a Temporary one.
func (m *model) isGone(child int) {
	if m.spec.Children[child].Restart == api.Temporary {
		m.gone = append(m.gone, child)
	}
}

// restart is what is done for a child that is to be started again.
func (m *model) restart(child, now int) []api.Act {
	m.notes = append(m.notes, now)
	young := 0
	for _, n := range m.notes {
		if less(now, n).Cmp(big.NewInt(int64(m.spec.T))) < 0 {
			young++
		}
	}
	named := []int{child} // whom the strategy names
	switch m.spec.Strategy {
	case all:
		named = count(0, len(m.spec.Children))
	case rest:
		named = count(child, len(m.spec.Children))
	}
	if young > m.spec.M {
		m.ending, m.toStop = true, backward(m.up)
		return m.goOn(now)
	}
	m.toStop, m.toStart = nil, nil
	for _, c := range named {
		if slices.Contains(m.up, c) {
			m.toStop = append(m.toStop, c)
			m.isGone(c)
		}
	}
	m.toStop = backward(m.toStop)
	for _, c := range named {
		if !slices.Contains(m.gone, c) {
			m.toStart = append(m.toStart, c)
		}
	}
	return m.goOn(now)
}

// goOn stops the next one; behind the last one comes what was to come.
func (m *model) goOn(now int) []api.Act {
	if len(m.toStop) > 0 {
		child := m.toStop[0]
		m.toStop, m.halting, m.since = m.toStop[1:], child, now
		m.wasKilled = m.spec.Children[child].Timeout == -1
		if m.wasKilled {
			return []api.Act{kill(child)}
		}
		return []api.Act{stop(child)}
	}
	if m.ending {
		m.done = true
		return []api.Act{exit()}
	}
	return m.starts(m.toStart)
}

// tick is Tick.
func (m *model) tick(now int) []api.Act {
	if m.halting < 0 || m.wasKilled {
		return nil
	}
	if less(now, m.since).Cmp(big.NewInt(int64(m.spec.Children[m.halting].Timeout))) <= 0 {
		return nil
	}
	m.wasKilled = true
	return []api.Act{kill(m.halting)}
}

// stop is Stop.
func (m *model) stop(now int) []api.Act {
	if m.done || m.ending {
		return nil
	}
	m.isNew, m.ending, m.toStart = false, true, nil
	if m.halting >= 0 {
		m.toStop = backward(without(m.up, m.halting))
		return nil
	}
	m.toStop = backward(m.up)
	return m.goOn(now)
}

// The calls that turn a machine.
const (
	doBegin = iota
	doDown
	doTick
	doStop
)

// call is one of them.
type call struct {
	kind, child int
	normal      bool
	now         int
}

// plain does one thing with a machine.
func plain(s *sup.Sup, c call) []api.Act {
	switch c.kind {
	case doBegin:
		return s.Begin()
	case doDown:
		return s.Down(c.child, c.normal, c.now)
	case doTick:
		return s.Tick(c.now)
	}
	return s.Stop(c.now)
}

// says does one thing with the model.
func (m *model) says(c call) []api.Act {
	switch c.kind {
	case doBegin:
		return m.begin()
	case doDown:
		return m.down(c.child, c.normal, c.now)
	case doTick:
		return m.tick(c.now)
	}
	return m.stop(c.now)
}

// both does one thing with a machine and with the model, and holds the answers against each other.
func both(t *testing.T, s *sup.Sup, m *model, c call) {
	t.Helper()
	if got, want := plain(s, c), m.says(c); !slices.Equal(got, want) {
		t.Fatalf("%v of %v: %s, not %s", c, m.spec, text(got), text(want))
	}
	if s.Done() != m.done || !slices.Equal(s.Up(), m.up) {
		t.Fatalf("%v of %v: %d, %t, not %d, %t", c, m.spec, s.Up(), s.Done(), m.up, m.done)
	}
}

// ofThree are all calls of a machine of three children, but Begin.
func ofThree() []call {
	calls := []call{{kind: doTick}, {kind: doStop}}
	for child := range 3 {
		calls = append(calls, call{kind: doDown, child: child}, call{kind: doDown, child: child, normal: true})
	}
	return calls
}

// plays plays all scripts of so many of these calls, the times of which are told by their places.
func plays(t *testing.T, s api.Spec, length int, calls []call, times []int, begin bool) {
	t.Helper()
	scripts := 1
	for range length {
		scripts *= len(calls)
	}
	for script := range scripts {
		got, err := sup.New(s)
		if err != nil {
			t.Fatal(err)
		}
		m := newModel(s)
		if begin {
			both(t, got, m, call{kind: doBegin})
		}
		for rest, step := script, 0; step < length; step++ {
			c := calls[rest%len(calls)]
			c.now = times[step]
			both(t, got, m, c)
			rest /= len(calls)
		}
	}
}

// All short scripts, with children of every kind.
func TestShortScriptsAreAsTheModelSays(t *testing.T) {
	for _, strategy := range strategies() {
		for kinds := range 27 {
			s := strict(strategy, 1, 3, api.Child{Func: "a", Restart: kinds % 3, Timeout: 0}, api.Child{Func: "b", Restart: kinds / 3 % 3, Timeout: -1}, api.Child{Func: "c", Restart: kinds / 9, Timeout: 1})
			plays(t, s, 4, ofThree(), []int{0, 2, 3, 5}, true)
			plays(t, s, 4, ofThree(), []int{3, 3, 2, 0}, true)
			plays(t, s, 3, append(ofThree(), call{kind: doBegin}), []int{0, 1, 2}, false)
		}
	}
}

// All scripts that are somewhat longer, of machines that may start their children again so often.
func TestLongerScriptsAreAsTheModelSays(t *testing.T) {
	calls := []call{{kind: doStop}, {kind: doTick}, {kind: doDown, child: 0}, {kind: doDown, child: 1}, {kind: doDown, child: 2}}
	for _, strategy := range strategies() {
		for most := range 3 {
			for _, middle := range []api.Child{permanent(), temporary()} {
				s := strict(strategy, most, 4, timed(1), middle, timed(2))
				plays(t, s, 7, calls, []int{0, 1, 2, 4, 5, 8, 10}, true)
			}
		}
	}
}

// chance makes specs and scripts.
type chance struct {
	*rand.Rand
	spec api.Spec
	now  int
	far  bool // now may be anything
}

// newChance makes scripts of some children.
func newChance(seed int64) *chance {
	r := &chance{Rand: rand.New(rand.NewSource(seed))}
	r.far = r.Intn(4) == 0
	n := []int{1, 2, 3, 4, 5, 8, most}[r.Intn(7)]
	r.spec = strict(1+r.Intn(3), []int{0, 1, 2, 3, 10, 1000}[r.Intn(6)], []int{1, 2, 5, 30, longest}[r.Intn(5)])
	for range n {
		r.spec.Children = append(r.spec.Children, api.Child{Func: strings.Repeat("f", 1+r.Intn(255)), Restart: []int{0, 0, 0, 1, 2}[r.Intn(5)], Timeout: []int{-1, 0, 1, 3, 9, longest}[r.Intn(6)]})
	}
	return r
}

// time is the time of the next call.
func (r *chance) time() int {
	if r.far && r.Intn(10) == 0 {
		return []int{math.MinInt, math.MaxInt, 0, math.MinInt + r.Intn(20), math.MaxInt - r.Intn(20), int(r.Uint64())}[r.Intn(6)]
	}
	r.now += []int{0, 0, 0, 1, 1, 2, 7, -1, -5, 40, -40, longest}[r.Intn(12)]
	return r.now
}

// call is a call by chance: mostly of somebody who is up, and often of the last one of them, as that is mostly the one that is being stopped.
func (r *chance) call(up []int) call {
	c := call{now: r.time(), normal: r.Intn(2) == 0}
	switch dice := r.Intn(300); {
	case dice == 0:
		c.kind = doStop
	case dice == 1:
		c.kind = doBegin
	case dice < 80:
		c.kind = doTick
	case dice < 100 || len(up) == 0:
		c.kind, c.child = doDown, r.Intn(len(r.spec.Children)+2)-1
	case dice < 200:
		c.kind, c.child = doDown, up[len(up)-1]
	default:
		c.kind, c.child = doDown, up[r.Intn(len(up))]
	}
	return c
}

// Long scripts by chance.
func TestLongScriptsAreAsTheModelSays(t *testing.T) {
	for seed := range int64(6000) {
		r := newChance(seed)
		s, err := sup.New(r.spec)
		if err != nil {
			t.Fatal(err)
		}
		m := newModel(r.spec)
		if r.Intn(20) > 0 {
			both(t, s, m, call{kind: doBegin})
		}
		for range 100 {
			both(t, s, m, r.call(m.up))
		}
	}
}

// Many restarts, and times that go to and fro.
func TestManyNotesAreAsTheModelSays(t *testing.T) {
	for seed := range int64(60) {
		r := newChance(seed)
		spec := strict(one, []int{1, 5, 30, 100}[r.Intn(4)], []int{1, 20, 300}[r.Intn(3)], permanent(), transient())
		m := newModel(spec)
		s, _ := sup.New(spec)
		both(t, s, m, call{kind: doBegin})
		now := 0
		for range 400 {
			now += r.Intn(2+2*spec.T/spec.M) - r.Intn(1+spec.T/spec.M/2)
			both(t, s, m, call{doDown, r.Intn(2), false, now})
		}
	}
}

// watcher looks at what a machine says, and asks whether it is in order, without a model.
type watcher struct {
	t       *testing.T
	spec    api.Spec
	cause   int   // the child whose end brought it about
	stopped []int // since then
	out     bool
}

// named are those whom the strategy names.
func (w *watcher) named() []int {
	switch w.spec.Strategy {
	case one:
		return []int{w.cause}
	case rest:
		return count(w.cause, len(w.spec.Children))
	}
	return count(0, len(w.spec.Children))
}

// looks looks at what was said.
func (w *watcher) looks(c call, acts []api.Act) {
	w.t.Helper()
	if w.out && len(acts) > 0 {
		w.t.Fatalf("%v: %s behind ActExit", c, text(acts))
	}
	if c.kind == doDown && len(w.stopped) == 0 {
		w.cause = c.child
	}
	var started []int
	for i, a := range acts {
		switch a.Kind {
		case api.ActStart:
			started = append(started, a.Child)
		case api.ActStop, api.ActKill:
			w.stops(a, c.kind == doTick)
		case api.ActExit:
			w.out = true
		}
		if a.Kind != api.ActStart && i > 0 || a.Kind == api.ActExit && a.Child != 0 {
			w.t.Fatalf("%v: %s", c, text(acts))
		}
	}
	if len(started) > 0 {
		w.starts(c, started)
		w.stopped = nil
	}
}

// stops looks at a stop: none is stopped twice, and each is ahead of the one that was stopped before it.
func (w *watcher) stops(a api.Act, late bool) {
	w.t.Helper()
	n := len(w.stopped)
	if late {
		if a.Kind != api.ActKill || n == 0 || w.stopped[n-1] != a.Child {
			w.t.Fatalf("Tick: %v behind %d", a, w.stopped)
		}
		return
	}
	if n > 0 && w.stopped[n-1] <= a.Child {
		w.t.Fatalf("%v behind %d", a, w.stopped)
	}
	w.stopped = append(w.stopped, a.Child)
}

// starts looks at those that were started: just those that the strategy names, in order; and just such ones were stopped.
func (w *watcher) starts(c call, started []int) {
	w.t.Helper()
	want := w.named()
	if c.kind == doBegin {
		want = count(0, len(w.spec.Children))
	} else {
		want = slices.DeleteFunc(want, func(c int) bool { return w.spec.Children[c].Restart == api.Temporary })
	}
	if !slices.Equal(started, want) {
		w.t.Fatalf("%v: started %d, not %d", c, started, want)
	}
	for _, child := range w.stopped {
		if child == w.cause || !slices.Contains(w.named(), child) {
			w.t.Fatalf("%v: stopped %d because of %d", c, w.stopped, w.cause)
		}
	}
}

// P17.6
func TestOnlyNamedOnesAreStoppedAndStarted(t *testing.T) {
	exits, again := 0, 0
	for seed := range int64(6000) {
		r := newChance(100000 + seed)
		s, err := sup.New(r.spec)
		if err != nil {
			t.Fatal(err)
		}
		w := &watcher{t: t, spec: r.spec}
		w.looks(call{kind: doBegin}, s.Begin())
		for range 100 {
			c := r.call(s.Up())
			acts := plain(s, c)
			w.looks(c, acts)
			if len(acts) > 0 && acts[0].Kind == api.ActStart {
				again++
			}
		}
		if w.out != s.Done() {
			t.Fatalf("Done: %t", s.Done())
		}
		if w.out {
			exits++
		}
	}
	if exits < 1000 || again < 10000 {
		t.Errorf("%d ends, %d restarts: too few to tell", exits, again)
	}
}
