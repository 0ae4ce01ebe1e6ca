package sup_test

import (
	"errors"
	"math"
	"slices"
	"strconv"
	"testing"

	"troupe/api"
	"troupe/sup"
)

const (
	one  = api.OneForOne
	all  = api.OneForAll
	rest = api.RestForOne

	most    = 32    // children
	longest = 10000 // ticks
)

// strategies are all that there are.
func strategies() []int { return []int{one, all, rest} }

// far are numbers that are none of a spec's, and no child's.
func far() []int {
	return []int{-2, -3, -most, -1000, -longest, longest + 1, longest + 2, 1 << 16, 1<<31 - 1, 1 << 31, 1 << 32, 1<<32 + 1, 1<<32 + 5, -1 << 31, -1 << 32, 1 - 1<<32, math.MinInt, math.MinInt + 1, math.MaxInt, math.MaxInt - 1}
}

// permanent, transient and temporary are children with a Timeout of 5 ticks.
func permanent() api.Child { return api.Child{Func: "p", Restart: api.Permanent, Timeout: 5} }
func transient() api.Child { return api.Child{Func: "tr", Restart: api.Transient, Timeout: 5} }
func temporary() api.Child { return api.Child{Func: "te", Restart: api.Temporary, Timeout: 5} }

// killed is a Permanent child that has no time to stop.
func killed() api.Child { return api.Child{Func: "k", Timeout: -1} }

// children are so many of a kind.
func children(n int, c api.Child) []api.Child { return slices.Repeat([]api.Child{c}, n) }

// spec is a supervisor that starts its children as often as may be.
func spec(strategy int, children ...api.Child) api.Spec {
	return api.Spec{Strategy: strategy, M: 1000, T: 1, Children: children}
}

// strict is a supervisor with an intensity.
func strict(strategy, m, t int, children ...api.Child) api.Spec {
	return api.Spec{Strategy: strategy, M: m, T: t, Children: children}
}

// What a supervisor does.
func start(child int) api.Act { return api.Act{Kind: api.ActStart, Child: child} }
func stop(child int) api.Act  { return api.Act{Kind: api.ActStop, Child: child} }
func kill(child int) api.Act  { return api.Act{Kind: api.ActKill, Child: child} }
func exit() api.Act           { return api.Act{Kind: api.ActExit} }

// starts are the ActStarts of those.
func starts(children ...int) []api.Act {
	var acts []api.Act
	for _, child := range children {
		acts = append(acts, start(child))
	}
	return acts
}

// count are the numbers from one to below another.
func count(from, to int) []int {
	var ns []int
	for n := from; n < to; n++ {
		ns = append(ns, n)
	}
	return ns
}

// text is what a supervisor does, as a text.
func text(acts []api.Act) string {
	said := "["
	for _, a := range acts {
		said += " " + strconv.Itoa(a.Kind) + ":" + strconv.Itoa(a.Child)
	}
	return said + " ]"
}

// machine is a supervisor, and what it must be: it is asked behind each call.
type machine struct {
	*sup.Sup
	t    *testing.T
	up   []int
	done bool
	acts []api.Act // all that it said
}

// fresh is a machine that has done nothing.
func fresh(t *testing.T, s api.Spec) *machine {
	t.Helper()
	got, err := sup.New(s)
	if got == nil || err != nil {
		t.Fatalf("New(%v): %v", s, err)
	}
	m := &machine{Sup: got, t: t}
	m.isAsItMust()
	return m
}

// begun is a machine all of whose children are up.
func begun(t *testing.T, s api.Spec) *machine {
	t.Helper()
	m := fresh(t, s)
	m.begins(starts(count(0, len(s.Children))...)...)
	return m
}

// isAsItMust asks twice who is up, and whether it is done.
func (m *machine) isAsItMust() {
	m.t.Helper()
	for range 2 {
		if got := m.Up(); !slices.Equal(got, m.up) {
			m.t.Fatalf("Up: %d, not %d", got, m.up)
		}
		if m.Done() != m.done {
			m.t.Fatalf("Done: %t", m.Done())
		}
	}
}

// said holds what a call said against what it must say, and asks who is up then.
func (m *machine) said(call string, got, want []api.Act) {
	m.t.Helper()
	if !slices.Equal(got, want) {
		m.t.Fatalf("%s: %s, not %s, behind %s", call, text(got), text(want), text(m.acts))
	}
	for _, a := range want {
		switch a.Kind {
		case api.ActStart:
			m.up = append(m.up, a.Child)
		case api.ActExit:
			m.done = true
		}
	}
	slices.Sort(m.up)
	m.acts = append(m.acts, want...)
	m.isAsItMust()
}

// begins begins.
func (m *machine) begins(acts ...api.Act) {
	m.t.Helper()
	m.said("Begin", m.Begin(), acts)
}

// downs tells it of a child's end.
func (m *machine) downs(child int, normal bool, now int, acts ...api.Act) {
	m.t.Helper()
	m.up = slices.DeleteFunc(m.up, func(c int) bool { return c == child })
	m.said("Down("+strconv.Itoa(child)+", "+strconv.FormatBool(normal)+", "+strconv.Itoa(now)+")", m.Down(child, normal, now), acts)
}

// crashes tells it of an end that is not normal.
func (m *machine) crashes(child, now int, acts ...api.Act) {
	m.t.Helper()
	m.downs(child, false, now, acts...)
}

// ends tells it of an end that is normal.
func (m *machine) ends(child, now int, acts ...api.Act) {
	m.t.Helper()
	m.downs(child, true, now, acts...)
}

// ticks tells it the time.
func (m *machine) ticks(now int, acts ...api.Act) {
	m.t.Helper()
	m.said("Tick("+strconv.Itoa(now)+")", m.Tick(now), acts)
}

// stops asks it to end.
func (m *machine) stops(now int, acts ...api.Act) {
	m.t.Helper()
	m.said("Stop("+strconv.Itoa(now)+")", m.Stop(now), acts)
}

// isUp asks who is up.
func (m *machine) isUp(children ...int) {
	m.t.Helper()
	if got := m.Up(); !slices.Equal(got, children) {
		m.t.Fatalf("Up: %d, not %d", got, children)
	}
}

// isDone asks whether it has ended: nobody is up, and it says nothing more, whatever is called.
func (m *machine) isDone() {
	m.t.Helper()
	if !m.Done() {
		m.t.Fatal("Done: no")
	}
	m.isUp()
	for range 2 {
		m.begins()
		for _, now := range []int{0, 5, -5, 1 << 20, math.MinInt, math.MaxInt} {
			for child := -1; child <= most; child++ {
				m.crashes(child, now)
				m.ends(child, now)
			}
			m.ticks(now)
			m.stops(now)
		}
	}
}

// isIdle asks whether nothing is under way: no time that goes by turns that.
func (m *machine) isIdle() {
	m.t.Helper()
	for _, now := range []int{0, 1, 5, 1 << 20, math.MaxInt, math.MinInt, -1} {
		m.ticks(now)
	}
}

// refused asks for a chain of a Fault "spec", and of one of the child's, if it is one that is wrong (-1: none is), around ErrConf.
func refused(t *testing.T, err error, child int) {
	t.Helper()
	f, ok := err.(*api.Fault)
	if !ok || f.Op != "spec" || f.N != 0 || !errors.Is(err, api.ErrConf) {
		t.Fatalf("%v: not a Fault \"spec\" of 0", err)
	}
	err = f.Err
	if child >= 0 {
		f, ok = err.(*api.Fault)
		if !ok || f.Op != "child" || f.N != child {
			t.Fatalf("%v: not a Fault \"child\" of %d", err, child)
		}
		err = f.Err
	}
	if err != error(api.ErrConf) {
		t.Fatalf("%v: not ErrConf", err)
	}
}

// mayBe asks whether a spec may be.
func mayBe(t *testing.T, s api.Spec) {
	t.Helper()
	for range 2 {
		if err := sup.Right(s); err != nil {
			t.Fatalf("Right(%v): %v", s, err)
		}
	}
	fresh(t, s)
}

// mayNotBe asks whether a spec may not be, because of a child, or of itself (-1).
func mayNotBe(t *testing.T, s api.Spec, child int) {
	t.Helper()
	for range 2 {
		refused(t, sup.Right(s), child)
		got, err := sup.New(s)
		if got != nil {
			t.Fatalf("New(%v): a machine", s)
		}
		refused(t, err, child)
	}
}
