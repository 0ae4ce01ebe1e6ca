package sup_test

import (
	"math"
	"testing"
)

// P17.3: who is started again.

func TestPermanentOnes(t *testing.T) {
	for _, strategy := range strategies() {
		m := begun(t, spec(strategy, permanent()))
		for now := range 50 {
			m.downs(0, now%3 == 0, now, start(0))
			m.isUp(0)
		}
	}
}

func TestTransientOnes(t *testing.T) {
	for _, strategy := range strategies() {
		m := begun(t, spec(strategy, transient()))
		for now := range 50 {
			m.crashes(0, now, start(0))
		}
		m.ends(0, 60)
		m.isUp()
		m.isIdle()
		m.crashes(0, 61) // it is down
		m.isUp()
		m.stops(62, exit())
		m.isDone()
	}
}

func TestTemporaryOnes(t *testing.T) {
	for _, strategy := range strategies() {
		for _, normal := range []bool{true, false} {
			m := begun(t, spec(strategy, temporary(), temporary(), temporary()))
			m.downs(1, normal, 3)
			m.isUp(0, 2)
			m.isIdle()
			m.downs(1, !normal, 4)
			m.downs(0, normal, 5)
			m.downs(2, normal, 6)
			m.isUp()
			m.isIdle()
			m.stops(7, exit())
			m.isDone()
		}
	}
}

// A Temporary one that ended is gone for good.
func TestATemporaryOneThatEndedIsGone(t *testing.T) {
	for _, normal := range []bool{true, false} {
		for _, strategy := range []int{all, rest} {
			m := begun(t, spec(strategy, permanent(), temporary(), permanent()))
			m.downs(1, normal, 1)
			for now := range 3 {
				m.crashes(0, now, stop(2))
				m.ends(2, now, start(0), start(2))
				m.isUp(0, 2)
			}
		}
	}
}

// One that ended normally is not gone: it is started with the others.
func TestATransientOneThatEndedIsNotGone(t *testing.T) {
	m := begun(t, spec(all, transient(), permanent(), transient()))
	m.ends(0, 1)
	m.ends(2, 1)
	m.isUp(1)
	m.crashes(1, 2, start(0), start(1), start(2))
	m = begun(t, spec(rest, transient(), permanent(), transient()))
	m.ends(0, 1)
	m.ends(2, 1)
	m.crashes(1, 2, start(1), start(2)) // the one ahead of it is not named
	m.isUp(1, 2)
	m = begun(t, spec(one, transient(), permanent()))
	m.ends(0, 1)
	m.crashes(1, 2, start(1))
	m.isUp(1)
}

// P17.3: OneForOne.
func TestOneForOne(t *testing.T) {
	for n := 1; n <= most; n++ {
		m := begun(t, spec(one, children(n, permanent())...))
		for _, child := range []int{0, n / 2, n - 1} {
			m.crashes(child, child, start(child))
			m.isUp(count(0, n)...)
			m.isIdle()
		}
	}
	m := begun(t, spec(one, permanent(), temporary(), transient(), permanent()))
	m.crashes(1, 1)
	m.ends(2, 1)
	m.crashes(0, 1, start(0)) // those who are down stay so
	m.crashes(3, 1, start(3))
	m.isUp(0, 3)
}

// P17.3: OneForAll.
func TestOneForAll(t *testing.T) {
	for n := 1; n <= most; n++ {
		for _, child := range []int{0, n / 2, n - 1} {
			m := begun(t, spec(all, children(n, transient())...))
			var others []int // in the order in which they are stopped
			for other := n - 1; other >= 0; other-- {
				if other != child {
					others = append(others, other)
				}
			}
			fallsAndRises(m, child, others, count(0, n))
			m.isUp(count(0, n)...)
		}
	}
}

// P17.3: RestForOne.
func TestRestForOne(t *testing.T) {
	for n := 1; n <= most; n++ {
		for _, child := range []int{0, n / 2, n - 1} {
			m := begun(t, spec(rest, children(n, transient())...))
			var behind []int
			for other := n - 1; other > child; other-- {
				behind = append(behind, other)
			}
			fallsAndRises(m, child, behind, count(child, n))
			m.isUp(count(0, n)...)
		}
	}
}

// fallsAndRises lets a child crash; then those must be stopped, in this order, and then those started.
func fallsAndRises(m *machine, child int, stopped, started []int) {
	m.t.Helper()
	last := child
	for i, other := range stopped {
		m.crashes(last, i, stop(other))
		m.ticks(i)
		last = other
	}
	m.crashes(last, len(stopped), starts(started...)...)
	m.isIdle()
}

// With others that are down already, and Temporary ones among those that are stopped: these are gone then.
func TestTemporaryOnesThatAreStopped(t *testing.T) {
	m := begun(t, spec(all, temporary(), permanent(), transient(), temporary(), permanent()))
	m.ends(2, 1)
	m.crashes(1, 2, stop(4))
	m.ends(4, 3, stop(3))
	m.ends(3, 4, stop(0))
	m.ends(0, 5, starts(1, 2, 4)...)
	m.isUp(1, 2, 4)
	m.crashes(4, 6, stop(2))
	m.ends(2, 7, stop(1))
	m.ends(1, 8, starts(1, 2, 4)...)

	m = begun(t, spec(rest, temporary(), permanent(), transient(), temporary(), permanent()))
	m.ends(2, 1)
	m.crashes(1, 2, stop(4))
	m.ends(4, 3, stop(3))
	m.ends(3, 4, starts(1, 2, 4)...)
	m.isUp(0, 1, 2, 4) // the one ahead is not named
	m.crashes(4, 5, start(4))
	m.crashes(2, 5, stop(4))
	m.crashes(4, 6, starts(2, 4)...)
	m.crashes(0, 7)
	m.isUp(1, 2, 4)

	m = begun(t, spec(all, temporary(), permanent(), temporary()))
	m.crashes(1, 2, stop(2))
	m.crashes(2, 3, stop(0))
	m.crashes(0, 4, start(1))
	m.isUp(1)
}

// Where none is to be stopped, what is to come comes at once.
func TestNoneIsToBeStopped(t *testing.T) {
	m := begun(t, spec(all, transient(), permanent(), temporary()))
	m.ends(0, 1)
	m.ends(2, 1)
	m.crashes(1, 2, start(0), start(1))
	m.isUp(0, 1)

	m = begun(t, spec(rest, permanent(), transient(), transient(), temporary()))
	m.crashes(3, 1)
	m.ends(2, 1)
	m.crashes(1, 2, start(1), start(2))
	m.isUp(0, 1, 2)
	m.crashes(2, 3, start(2)) // none is behind it

	m = begun(t, strict(all, 0, 1, transient(), permanent()))
	m.ends(0, 1)
	m.crashes(1, 2, exit())
	m.isDone()
}

// P17.3: the intensity.

// None at all: the first restart is one too many.
func TestNoRestartMayBe(t *testing.T) {
	for _, strategy := range strategies() {
		for _, ticks := range []int{1, 2, longest} {
			for _, now := range []int{0, 5, -5, math.MinInt, math.MaxInt} {
				m := begun(t, strict(strategy, 0, ticks, permanent(), transient(), temporary()))
				m.crashes(1, now, stop(2))
				m.ends(2, now, stop(0))
				m.crashes(0, now, exit())
				m.isDone()
				m = begun(t, strict(strategy, 0, ticks, transient(), temporary()))
				m.ends(0, now) // not a restart
				m.crashes(1, now)
				m.isIdle()
				m.stops(now, exit())
			}
		}
	}
}

// So many restarts within T ticks may be, and one more may not.
func TestOneTooMany(t *testing.T) {
	for _, most := range []int{1, 2, 3, 7, 100, 999, 1000} {
		for _, ticks := range []int{1, 2, 10, longest} {
			for _, strategy := range strategies() {
				m := begun(t, strict(strategy, most, ticks, permanent()))
				for i := range most {
					m.crashes(0, 100+i*(ticks-1)/most, start(0))
				}
				m.crashes(0, 100+ticks-1, exit())
				m.isDone()
			}
		}
	}
}

// Just beyond T ticks an old note counts no more.
func TestOldNotesCountNoMore(t *testing.T) {
	for _, most := range []int{1, 2, 3, 7, 100, 1000} {
		for _, ticks := range []int{1, 2, 10, longest} {
			for _, first := range []int{0, -3, 100, math.MinInt, math.MaxInt - 100*ticks} {
				m := begun(t, strict(one, most, ticks, permanent()))
				for turn := range 5 {
					for range most {
						m.crashes(0, first+turn*ticks, start(0))
					}
				}
				m.crashes(0, first+5*ticks-1, exit())
				m.isDone()
			}
		}
	}
}

// One at a time grows old.
func TestNotesGrowOldOneByOne(t *testing.T) {
	m := begun(t, strict(one, 3, 10, permanent(), permanent()))
	for i, now := range []int{0, 4, 8, 10, 14, 18, 20, 24, 28, 30} {
		m.crashes(i%2, now, start(i%2))
	}
	m.crashes(0, 33, stop(1))
	m.ends(1, 34, exit())
	for last := 30; last <= 40; last++ {
		m = begun(t, strict(one, 2, 10, permanent()))
		m.crashes(0, 20, start(0))
		m.crashes(0, 25, start(0))
		if last < 30 {
			m.crashes(0, last, exit())
			continue
		}
		m.crashes(0, last, start(0))
		if last < 35 { // those of 25 and of last
			m.crashes(0, 34, exit())
		} else {
			m.crashes(0, 44, start(0)) // just that of last
		}
	}
}

// A now that goes back: a note of a later time counts, as now less it is below T.
func TestNowGoesBack(t *testing.T) {
	for _, back := range []int{100, 99, 91, 90, 89, 50, 0, -1000, math.MinInt} {
		m := begun(t, strict(one, 1, 10, permanent()))
		m.crashes(0, 100, start(0))
		m.crashes(0, back, exit())
		m.isDone()
		m = begun(t, strict(one, 2, 10, permanent()))
		m.crashes(0, 100, start(0))
		m.crashes(0, back, start(0))
		m.crashes(0, back, exit())
		m.isDone()
	}
	// A note that was old once, and is not when now goes back.
	m := begun(t, strict(one, 2, 10, permanent()))
	m.crashes(0, 0, start(0))
	m.crashes(0, 100, start(0))
	m.crashes(0, 0, exit())
	// One that was noted behind, and is older: it counts by its time.
	m = begun(t, strict(one, 2, 10, permanent()))
	m.crashes(0, 100, start(0))
	m.crashes(0, 0, start(0))
	m.crashes(0, 109, start(0)) // 100, 109
	m.crashes(0, 110, start(0)) // 109, 110
	m.crashes(0, 118, exit())   // 109, 110, 118
	m = begun(t, strict(one, 2, 10, permanent()))
	m.crashes(0, 100, start(0))
	m.crashes(0, 50, start(0))
	m.crashes(0, 105, start(0))
	m.crashes(0, 60, exit()) // 60, 100, 105
}

// The least and the greatest now: their difference is more than an int holds.
func TestFarthestTimes(t *testing.T) {
	for _, ticks := range []int{1, 2, 5, longest} {
		for _, c := range [][2]int{{math.MinInt, math.MaxInt}, {math.MinInt, 0}, {-1, math.MaxInt}, {math.MinInt + 1, math.MaxInt - 1}, {-1 << 62, 1 << 62}, {-2, math.MaxInt}} {
			m := begun(t, strict(one, 1, ticks, permanent()))
			m.crashes(0, c[0], start(0))
			m.crashes(0, c[1], start(0)) // far ahead
			m.crashes(0, c[1], exit())
			m = begun(t, strict(one, 1, ticks, permanent()))
			m.crashes(0, c[1], start(0))
			m.crashes(0, c[0], exit()) // far back
		}
	}
}

// All restarts count, of whichever child; an end that starts nobody again is not one.
func TestNotesAreOfAllChildren(t *testing.T) {
	m := begun(t, strict(one, 2, 5, permanent(), transient(), temporary(), permanent()))
	m.crashes(0, 10, start(0))
	m.crashes(2, 11)
	m.crashes(1, 11, start(1))
	m.ends(1, 11)
	m.ends(3, 14, stop(0))
	m.crashes(0, 14, exit())

	m = begun(t, strict(all, 2, 5, permanent(), temporary(), transient()))
	m.ends(0, 10, stop(2))
	m.ends(2, 10, stop(1))
	m.ends(1, 10, start(0), start(2))
	m.crashes(2, 11, stop(0))
	m.crashes(0, 11, start(0), start(2))
	m.ends(2, 12)
	m.crashes(0, 14, exit())

	m = begun(t, strict(rest, 2, 5, permanent(), transient(), temporary()))
	m.crashes(1, 10, stop(2))
	m.ends(2, 10, start(1))
	m.crashes(0, 12, stop(1))
	m.ends(1, 13, start(0), start(1))
	m.ends(1, 14)
	m.ends(0, 14, exit())
}
