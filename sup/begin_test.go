package sup_test

import (
	"math"
	"testing"

	"troupe/api"
)

// The chapter's example.
func TestExample(t *testing.T) {
	m := fresh(t, strict(all, 1, 10, permanent(), permanent()))
	m.begins(start(0), start(1))
	m.crashes(0, 5, stop(1))
	m.crashes(1, 6, start(0), start(1))
	m.crashes(1, 7, stop(0))
	m.ends(0, 8, exit())
	m.isDone()
}

// P17.2, P17.5

func TestBegin(t *testing.T) {
	kinds := []api.Child{permanent(), transient(), temporary(), killed()}
	for _, strategy := range strategies() {
		for n := 1; n <= most; n++ {
			s := spec(strategy)
			for i := range n {
				s.Children = append(s.Children, kinds[(i*i+n)%len(kinds)])
			}
			m := begun(t, s)
			m.isUp(count(0, n)...)
			m.isIdle()
			for range 3 {
				m.begins()
			}
		}
	}
}

// Just one that is new begins.
func TestBeginOfOneThatIsNotNew(t *testing.T) {
	for _, strategy := range strategies() {
		m := begun(t, strict(strategy, 1, 5, permanent(), temporary(), permanent()))
		m.begins()
		m.ends(1, 1)
		m.begins() // though somebody is down
		m.stops(2, stop(2))
		m.begins() // stopping
		m.crashes(2, 3, stop(0))
		m.begins()
		m.isUp(0)
		m.crashes(0, 4, exit())
		m.begins()
		m.isDone()
	}
	m := begun(t, spec(one, temporary()))
	m.crashes(0, 1)
	m.begins() // though all are down
	m.isUp()
	m = begun(t, spec(all, permanent(), permanent()))
	m.crashes(0, 1, stop(1))
	m.begins() // stopping for a restart
	m.isUp(1)
	m.ends(1, 2, start(0), start(1))
	m.begins()
	m.ends(1, 3, stop(0))
	m.isUp(0)
}

func TestStopAheadOfBegin(t *testing.T) {
	for _, strategy := range strategies() {
		for _, now := range []int{0, 7, -7, math.MaxInt, math.MinInt} {
			for _, c := range []api.Child{permanent(), transient(), temporary(), killed()} {
				m := fresh(t, spec(strategy, children(3, c)...))
				m.stops(now, exit())
				m.isDone()
			}
		}
	}
}

// P17.3: a child that was never up does not go down; nothing is turned by it.
func TestDownAheadOfBegin(t *testing.T) {
	for _, strategy := range strategies() {
		m := fresh(t, strict(strategy, 0, 5, permanent(), transient(), temporary()))
		for _, child := range append(far(), -1, 0, 1, 2, 3) {
			for _, normal := range []bool{true, false} {
				m.downs(child, normal, 1)
			}
		}
		m.isIdle()
		m.begins(starts(0, 1, 2)...)
	}
	for _, strategy := range strategies() {
		m := fresh(t, strict(strategy, 1, longest, permanent(), temporary(), permanent()))
		for child := range 3 {
			m.crashes(child, 0) // no restart is noted, nobody is gone
		}
		m.begins(starts(0, 1, 2)...)
		switch strategy {
		case one:
			m.crashes(0, 1, start(0))
		default:
			m.crashes(0, 1, stop(2))
		}
	}
}

// P17.3: a child that is not there, or is down, does not go down, whatever is under way.
func TestDownOfNoChild(t *testing.T) {
	for _, strategy := range strategies() {
		for _, n := range []int{1, 2, 3, most} {
			m := begun(t, strict(strategy, 1, longest, children(n, permanent())...))
			ask := func() {
				t.Helper()
				for _, child := range append(far(), -1, n, n+1) {
					for _, normal := range []bool{true, false} {
						m.downs(child, normal, 1)
					}
				}
			}
			ask()
			m.isUp(count(0, n)...)
			m.stops(5, stop(n-1))
			ask()
			for child := n - 2; child >= 0; child-- {
				m.crashes(child+1, 6, stop(child))
				m.crashes(child+1, 7) // it is down
				m.ends(child+1, 7)
				ask()
			}
			m.crashes(0, 8, exit())
			ask()
			m.isDone()
		}
	}
}

func TestDownOfOneThatIsDown(t *testing.T) {
	for _, strategy := range strategies() {
		m := begun(t, strict(strategy, 1, longest, temporary(), transient(), permanent()))
		m.crashes(0, 1)
		m.ends(1, 1)
		m.isUp(2)
		for now := range 5 { // a second end is none, and not noted
			m.crashes(0, now)
			m.crashes(1, now)
			m.ends(0, now)
			m.ends(1, now)
		}
		m.isUp(2)
		switch strategy {
		case all:
			m.crashes(2, 9, start(1), start(2))
		default:
			m.crashes(2, 9, start(2))
		}
	}
}
