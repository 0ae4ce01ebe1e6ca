package sup_test

import (
	"math"
	"slices"
	"testing"

	"troupe/api"
)

// timed is a Permanent child that has so many ticks to stop.
func timed(timeout int) api.Child { return api.Child{Func: "f", Timeout: timeout} }

// P17.3: stopping.

// Just the one that is being stopped brings the next one's turn.
func TestDownOfOthersWhenStopping(t *testing.T) {
	m := begun(t, strict(all, 1, longest, children(6, permanent())...))
	m.crashes(4, 1, stop(5))
	m.crashes(2, 1) // no more to be stopped, and not noted
	m.crashes(2, 1)
	m.ends(0, 2)
	m.isUp(1, 3, 5)
	m.crashes(5, 3, stop(3))
	m.crashes(5, 3)
	m.crashes(1, 3)
	m.isUp(3)
	m.ends(3, 4, starts(count(0, 6)...)...)
	m.crashes(0, 5, stop(5)) // the second restart that is noted: one too many
	for child := 5; child > 1; child-- {
		m.ends(child, 6, stop(child-1))
	}
	m.ends(1, 6, exit())
}

// Whoever goes while others are stopped is not noted, whatever it is.
func TestEndsWhenStoppingAreNotNoted(t *testing.T) {
	for _, normal := range []bool{true, false} {
		m := begun(t, strict(all, 2, longest, permanent(), transient(), temporary(), permanent(), permanent()))
		for turn := range 2 {
			m.crashes(0, turn, stop(4))
			if turn == 0 {
				m.downs(2, normal, turn)
			}
			m.downs(1, normal, turn)
			m.downs(3, normal, turn)
			m.downs(4, normal, turn, starts(0, 1, 3, 4)...)
		}
		m.crashes(1, 3, stop(4)) // beyond the intensity
		m.downs(3, normal, 3)
		m.downs(0, normal, 3)
		m.downs(4, normal, 3, exit())
		m.isDone()
	}
}

// One that the strategy does not name stays down, if it goes while others are stopped.
func TestDownOfOneThatIsNotToBeStopped(t *testing.T) {
	for _, normal := range []bool{true, false} {
		m := begun(t, strict(rest, 1, longest, permanent(), temporary(), transient(), permanent(), permanent()))
		m.crashes(3, 1, stop(4))
		for child := range 3 {
			m.downs(child, normal, 2)
		}
		m.isUp(4)
		m.downs(4, normal, 3, start(3), start(4))
		m.isUp(3, 4)
		m.isIdle()
		for child := range 3 {
			m.downs(child, normal, 4)
		}
		m.stops(5, stop(4))
		m.downs(4, normal, 6, stop(3))
		m.downs(3, normal, 6, exit())
		m.isDone()
	}
	// It is started again with others that are: a Temporary one is not.
	m := begun(t, spec(rest, permanent(), temporary(), transient(), permanent(), permanent()))
	m.crashes(3, 1, stop(4))
	m.crashes(1, 2)
	m.crashes(2, 2)
	m.ends(4, 3, start(3), start(4))
	m.crashes(0, 4, stop(4))
	m.ends(4, 5, stop(3))
	m.ends(3, 6, starts(0, 2, 3, 4)...)
	m.isUp(0, 2, 3, 4)
}

// The child whose end brought it all is not stopped: it is down.
func TestTheOneThatCrashedIsNotStopped(t *testing.T) {
	for _, strategy := range strategies() {
		for child := range 4 {
			m := begun(t, strict(strategy, 0, 1, children(4, permanent())...))
			others := slices.DeleteFunc([]int{3, 2, 1, 0}, func(c int) bool { return c == child })
			m.crashes(child, 1, stop(others[0]))
			m.crashes(child, 2) // it is down
			m.ends(others[0], 2, stop(others[1]))
			m.ends(child, 2)
			m.ends(others[1], 2, stop(others[2]))
			m.ends(others[2], 2, exit())
			m.isDone()
		}
	}
}

// P17.4

func TestKilledAtOnce(t *testing.T) {
	m := begun(t, spec(all, permanent(), killed(), permanent(), killed()))
	m.crashes(2, 1, kill(3))
	for _, now := range []int{1, 2, 100, math.MaxInt, math.MinInt} {
		m.ticks(now) // it was killed
	}
	m.isUp(0, 1, 3)
	m.crashes(3, 2, kill(1))
	m.ticks(math.MaxInt)
	m.crashes(1, 3, stop(0))
	m.ticks(8)
	m.ticks(9, kill(0))
	m.crashes(0, 10, starts(0, 1, 2, 3)...)
	m.stops(11, kill(3))
	m.ticks(math.MaxInt)
	m.ends(3, 12, stop(2))
	m.ticks(17)
	m.ends(2, 18, kill(1))
	m.ticks(100)
	m.crashes(1, 101, stop(0))
	m.ends(0, 102, exit())
	m.isDone()
}

// Just at a child's Timeout nothing, one tick beyond it ActKill, once.
func TestTick(t *testing.T) {
	for _, timeout := range []int{0, 1, 2, 5, 1000, longest - 1, longest} {
		for _, since := range []int{0, 7, -7, 1 << 40, -1 << 40, math.MinInt, math.MaxInt - timeout - 1} {
			for _, strategy := range []int{all, rest} {
				m := begun(t, spec(strategy, permanent(), timed(timeout)))
				m.crashes(0, since, stop(1))
				m.ticks(since)
				m.ticks(since + timeout/2)
				m.ticks(since + timeout)
				m.ticks(since + timeout)
				m.ticks(since+timeout+1, kill(1))
				for _, now := range []int{since + timeout + 1, since, math.MaxInt, math.MinInt, 0} {
					m.ticks(now) // once
				}
				m.isUp(1)
				m.crashes(1, since, start(0), start(1))
				m.isIdle()
			}
		}
	}
}

// A Tick far beyond kills too; one that goes back does not.
func TestTickOfFarTimes(t *testing.T) {
	for _, timeout := range []int{0, 1, 5, longest} {
		for _, c := range []struct {
			since, now int
			late       bool
		}{
			{math.MinInt, math.MaxInt, true}, {math.MaxInt, math.MinInt, false}, {0, math.MaxInt, true}, {0, math.MinInt, false}, {-1, math.MaxInt, true}, {-2, math.MaxInt, true},
			{1, math.MinInt, false}, {2, math.MinInt, false}, {math.MaxInt, math.MaxInt, false}, {math.MinInt, math.MinInt, false}, {math.MinInt, 0, true}, {math.MaxInt, 0, false}, {100, 99, false}, {-1 << 62, 1 << 62, true}, {1 << 62, -1 << 62, false},
		} {
			m := begun(t, spec(one, permanent(), timed(timeout)))
			m.stops(c.since, stop(1))
			if c.late {
				m.ticks(c.now, kill(1))
			}
			m.ticks(c.now)
			m.crashes(1, c.now, stop(0))
		}
	}
}

// Each child has its own Timeout, from its own ActStop on.
func TestTicksOfEachChild(t *testing.T) {
	m := begun(t, spec(one, timed(3), timed(0), timed(10), timed(-1), timed(7)))
	m.stops(100, stop(4))
	m.ticks(107)
	m.ends(4, 120, kill(3)) // it took its time, and was not killed
	m.ticks(500)
	m.ends(3, 501, stop(2))
	m.ticks(511)
	m.ticks(512, kill(2))
	m.ticks(513)
	m.crashes(2, 600, stop(1))
	m.ticks(600)
	m.ticks(601, kill(1))
	m.ticks(602)
	m.crashes(1, 300, stop(0)) // time goes back
	m.ticks(303)
	m.ticks(304, kill(0))
	m.crashes(0, 305, exit())
	m.isDone()
}

// The time of another one's end, or of a Stop that says nothing, is not that of the ActStop.
func TestTheTimeOfTheActStop(t *testing.T) {
	m := begun(t, spec(all, children(4, permanent())...))
	m.crashes(1, 10, stop(3))
	m.crashes(0, 14)
	m.stops(15)
	m.ticks(15)
	m.ticks(16, kill(3))
	m.stops(17)
	m.ticks(30)
	m.ends(3, 31, stop(2))
	m.stops(35)
	m.ticks(36)
	m.ticks(37, kill(2))
	m.ends(2, 38, exit())
	m.isDone()
}

// When nothing is being stopped, a Tick says nothing.
func TestTickWhenNothingIsBeingStopped(t *testing.T) {
	for _, strategy := range strategies() {
		m := fresh(t, strict(strategy, 1, 5, timed(0), timed(0)))
		m.isIdle()
		m.begins(start(0), start(1))
		m.isIdle()
		if strategy == all {
			m.crashes(1, 3, stop(0))
			m.ends(0, 3, start(0), start(1))
		} else {
			m.crashes(1, 3, start(1))
		}
		m.isIdle()
		m.crashes(1, 4, stop(0))
		m.ends(0, 5, exit())
		m.isIdle()
	}
}

// P17.4: Stop.

func TestStopWhenIdle(t *testing.T) {
	for _, strategy := range strategies() {
		for n := 1; n <= most; n++ {
			m := begun(t, spec(strategy, children(n, permanent())...))
			m.stops(3, stop(n-1))
			for child := n - 1; child > 0; child-- {
				m.downs(child, child%2 == 0, 4, stop(child-1))
			}
			m.ends(0, 5, exit())
			m.isDone()
		}
	}
}

// Those that are down are not stopped.
func TestStopOfThoseThatAreUp(t *testing.T) {
	for down := range 1 << 5 { // each set of them
		for _, strategy := range strategies() {
			m := begun(t, spec(strategy, children(5, transient())...))
			want := []api.Act{}
			for child := 4; child >= 0; child-- {
				if down>>child&1 == 1 {
					m.ends(child, 1)
				} else {
					want = append(want, stop(child))
				}
			}
			want = append(want, exit())
			m.stops(2, want[0])
			for i, a := range want[1:] {
				m.ends(want[i].Child, 3, a)
			}
			m.isDone()
		}
	}
}

// When it is stopping for a restart: nothing is said, and then all that are up are stopped, none is started.
func TestStopWhenStopping(t *testing.T) {
	m := begun(t, spec(all, children(5, permanent())...))
	m.crashes(2, 1, stop(4))
	m.stops(2)
	m.stops(3)
	m.isUp(0, 1, 3, 4)
	m.crashes(0, 3) // it is no more to be stopped
	m.ends(4, 4, stop(3))
	m.stops(5)
	m.ends(3, 6, stop(1))
	m.ends(1, 7, exit())
	m.isDone()

	m = begun(t, spec(rest, children(5, permanent())...)) // those ahead too
	m.crashes(2, 1, stop(4))
	m.stops(2)
	m.ends(4, 4, stop(3))
	m.ends(3, 4, stop(1))
	m.ends(1, 5, stop(0))
	m.ends(0, 6, exit())
	m.isDone()

	m = begun(t, spec(rest, children(5, permanent())...)) // behind the last one that was to be stopped
	m.crashes(3, 1, stop(4))
	m.crashes(1, 2)
	m.stops(3)
	m.isUp(0, 2, 4)
	m.ends(4, 4, stop(2))
	m.ends(2, 4, stop(0))
	m.ends(0, 6, exit())
	m.isDone()

	m = begun(t, spec(all, permanent(), permanent())) // no other is up
	m.crashes(0, 1, stop(1))
	m.stops(2)
	m.crashes(1, 3, exit())
	m.isDone()

	m = begun(t, spec(rest, permanent(), killed(), permanent())) // killed at once, also so
	m.crashes(1, 1, stop(2))
	m.stops(2)
	m.ticks(6)
	m.ticks(7, kill(2))
	m.stops(8)
	m.ticks(20)
	m.ends(2, 21, stop(0))
	m.ends(0, 22, exit())
	m.isDone()
}

// When it is coming to its end a Stop is nothing more.
func TestStopWhenComingToItsEnd(t *testing.T) {
	for _, strategy := range strategies() {
		m := begun(t, strict(strategy, 0, 1, children(4, permanent())...))
		m.crashes(1, 1, stop(3))
		m.stops(2)
		m.ends(3, 3, stop(2))
		m.stops(4)
		m.crashes(2, 5, stop(0))
		m.stops(6)
		m.ends(0, 7, exit())
		m.stops(8)
		m.isDone()
		m = begun(t, spec(strategy, children(2, permanent())...))
		m.stops(1, stop(1))
		m.stops(1)
		m.ends(1, 1, stop(0))
		m.stops(1)
		m.ends(0, 1, exit())
		m.stops(1)
		m.isDone()
	}
}

// With none up it exits at once.
func TestStopWithNoneUp(t *testing.T) {
	for _, strategy := range strategies() {
		m := begun(t, spec(strategy, temporary(), transient()))
		m.crashes(0, 1)
		m.ends(1, 1)
		m.stops(2, exit())
		m.isDone()
	}
}

// Beyond the intensity: as with a Stop, but for the one that crashed.
func TestBeyondTheIntensity(t *testing.T) {
	for _, strategy := range strategies() {
		for n := 1; n <= most; n++ {
			m := begun(t, strict(strategy, 0, 5, children(n, transient())...))
			child := n / 3
			others := slices.DeleteFunc(count(0, n), func(c int) bool { return c == child })
			last := child
			for _, other := range slices.Backward(others) {
				m.crashes(last, 1, stop(other))
				last = other
			}
			m.crashes(last, 1, exit())
			m.isDone()
		}
	}
}

// A restart that was told is forgotten with the end that comes ahead of it.
func TestNothingIsStartedBehindAStop(t *testing.T) {
	for _, strategy := range []int{all, rest} {
		for child := range 3 {
			m := begun(t, spec(strategy, children(4, permanent())...))
			m.crashes(child, 1, stop(3))
			m.stops(1)
			for !m.Done() {
				up := m.Up()
				m.up = up[:len(up)-1]
				acts := m.Down(up[len(up)-1], false, 2)
				for _, a := range acts {
					if a.Kind == api.ActStart {
						t.Fatalf("started: %d", a.Child)
					}
				}
			}
		}
	}
}
