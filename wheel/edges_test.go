package wheel_test

import (
	"slices"
	"testing"

	"troupe/wheel"
)

// edges are one less than each power of two, just that, and one more: whatever a turn of a wheel is, its edges are among them.
func edges(from, to int) []int {
	var all []int
	for i := from; i <= to; i++ {
		all = append(all, 1<<i-1, 1<<i, 1<<i+1)
	}
	slices.Sort(all)
	return slices.Compact(all)
}

// lengths are the edges as far as a timer may wait, and those of some turns.
func lengths() []int {
	var all []int
	for _, n := range slices.Concat(edges(0, 30), []int{3 << 6, 63 << 6, 3<<12 + 1, 63<<12 - 1, 63 << 18, 3 << 18, 63 << 24, 63<<24 + 63<<18 + 63<<12 + 63<<6 + 63}) {
		if n <= longest {
			all = append(all, n)
		}
	}
	return all
}

// P13.3, P13.4

// Each timer alone: nothing up to the tick ahead of its time, and then just it.
func TestEachEdgeFromManyTimes(t *testing.T) {
	nows := slices.Concat([]int{0, 5, 40, 100, 1000, 3 << 6, 5000, 3<<12 - 1, 1 << 22, 5<<18 + 63}, edges(6, 20))
	for _, now := range nows {
		for _, n := range lengths() {
			if n > 1<<25 {
				continue
			}
			w := freshAt(t, 1, now)
			starts(t, w, n, 9, 0)
			if n > 0 {
				goTo(t, w, now+n-1)
				isThere(t, w, 0, 1, 9)
				ticks(t, w, 1, 0)
			} else {
				ticks(t, w, 0, 0)
			}
			goTo(t, w, now+n+200)
		}
	}
}

// All of them at once, at times that begin and end turns of each wheel, up to those far beyond the greatest timer.
func TestAllEdgesAtOnce(t *testing.T) {
	nows := slices.Concat(edges(0, 32), []int{3 << 24, 63<<24 - 1, 63 << 24, 64<<24 - 64, 3<<30 - 1, 3<<30 + 5, 1<<36 - 1, 1 << 36, 1<<36 - 65})
	for _, now := range nows {
		w, m := freshAt(t, most, now), &model{most: most, now: now}
		for _, n := range lengths() {
			both(t, w, m, call{doStart, n})
		}
		for w.Len() > 0 {
			both(t, w, m, call{doTick, min(nearest(m), stretch)})
		}
		both(t, w, m, call{doTick, stretch})
		m.isAs(t, w)
	}
}

// nearest is how many ticks it is to the tick ahead of the next time at which a timer expires, or to that time.
func nearest(m *model) int {
	left := longest
	for _, x := range m.timers {
		left = min(left, x.at-m.now)
	}
	return max(left-1, min(left, 1))
}

// From the middle of a turn, from its last tick and its first one, over its end.
func TestEveryTickOfTwoTurns(t *testing.T) {
	for now := range 2*64 + 2 {
		w := freshAt(t, most, now)
		for n := 1; n <= 2*64+2; n++ {
			starts(t, w, n, 0, int64(n-1))
		}
		for n := 1; n <= 2*64+2; n++ {
			ticks(t, w, 1, int64(n-1))
		}
	}
}

// One is started each tick, over the ends of many turns.
func TestEveryTickOfManyTurns(t *testing.T) {
	for _, n := range []int{63, 64, 65, 4000, 4095, 4096} {
		w := freshAt(t, most, 50)
		for id := range int64(3*4096 + 200) {
			starts(t, w, n, id, id)
			ticks(t, w, 1, lastly(id, n)...)
		}
	}
}

// lastly are the ids that expire one tick behind the start of this one, where one is started each tick, and each waits n ticks.
func lastly(id int64, n int) []int64 {
	if id+1 < int64(n) {
		return nil
	}
	return []int64{id + 1 - int64(n)}
}

// The longest timers, one started each some ticks, over more than a turn of all wheels.
func TestLongestTimers(t *testing.T) {
	for _, first := range []int{0, 1, 1 << 24, 1<<24 - 1, 1<<30 - 1, 1 << 30, 1<<30 + 1} {
		w, m := freshAt(t, most, first), &model{most: most, now: first}
		for i := range 3 * longest / stretch {
			both(t, w, m, call{doStart, longest - i%3})
			if i%7 == 0 {
				both(t, w, m, call{doStart, longest})
			}
			both(t, w, m, call{doTick, stretch - i%2})
		}
		m.isAs(t, w)
	}
}

func TestFarBeyondAllWheels(t *testing.T) {
	for _, n := range []int{1 << 24, 1<<24 + 1, 1 << 25, 3 << 24, 1 << 29, longest - stretch, longest - 65, longest - 1, longest} {
		for _, now := range []int{0, 1, 1<<24 - 1, 1<<24 - 64, 77} {
			w := freshAt(t, 2, now)
			starts(t, w, n, 4, 0)
			for w.Now()+stretch < now+n {
				ticks(t, w, stretch)
			}
			ticks(t, w, now+n-w.Now()-1)
			isThere(t, w, 0, 1, 4)
			starts(t, w, 1, 5, 1)
			ticks(t, w, 1, 0, 1)
		}
	}
}

func TestManyAtOneTime(t *testing.T) {
	for _, n := range []int{0, 1, 63, 64, 65, 4095, 4096, 100000, stretch} {
		for _, now := range []int{0, 63, 100} {
			w := freshAt(t, most, now)
			for id := range int64(most) {
				starts(t, w, n, id, id)
			}
			if n > 0 {
				ticks(t, w, n-1)
			}
			ticks(t, w, min(n, 1), count(0, most)...)
		}
	}
}

// Whole turns apart, so at the same slot of a wheel but not at one time.
func TestSharedSlotsAreNotSharedTimes(t *testing.T) {
	for _, apart := range []int{64, 128, 256, 1024, 4096, 1 << 16, 1 << 18, 1 << 20, 1 << 24} {
		for _, now := range []int{0, 1, 63, 64, apart - 1, apart} {
			w := freshAt(t, most, now)
			some := min(130, longest/apart)
			for i := some; i > 0; i-- {
				starts(t, w, i*apart, 0, int64(some-i))
			}
			for i := 1; i <= some; i++ {
				goTo(t, w, now+i*apart-1)
				ticks(t, w, 1, int64(some-i))
			}
		}
	}
}

// Near to one another, so for long in one slot of a greater wheel.
func TestNeighboursPartInTime(t *testing.T) {
	for _, n := range []int{64, 100, 4096, 5000, 1 << 18, 1<<18 + 4096, 1 << 22, 1 << 24, 1<<24 + 3} {
		for _, now := range []int{0, 1, 63, 4095} {
			w := freshAt(t, most, now)
			for i := range 200 {
				starts(t, w, n+199-i, 0, int64(i))
			}
			goTo(t, w, now+n-1)
			for i := 199; i >= 0; i-- {
				ticks(t, w, 1, int64(i))
			}
		}
	}
}

// Timers of 2^30 ticks that stand a whole turn of everything ahead: a Tick of 0 at that time, or a start, must not mix them up with those of now.
func TestNoTickAtTheBeginningOfATurn(t *testing.T) {
	for _, now := range edges(0, 30) {
		w := freshAt(t, 9, now)
		for i, n := range []int{longest, 1 << 24, 1 << 18, 4096, 64, 1} {
			starts(t, w, n, 0, int64(i))
		}
		for range 3 {
			ticks(t, w, 0)
		}
		cancels(t, w, 3, 4096)
		for _, due := range []struct {
			n  int
			id int64
		}{{1, 5}, {64, 4}, {1 << 18, 2}, {1 << 24, 1}, {longest, 0}} {
			goTo(t, w, now+due.n-1)
			ticks(t, w, 0)
			ticks(t, w, 1, due.id)
		}
	}
}

// P13.4: each timer expires in the Tick that reaches its time, whatever Ticks there are.
func TestTheTickThatReachesItsTime(t *testing.T) {
	for step := 1; step < 300; step++ {
		w := fresh(t, most)
		for id := range int64(1000) {
			starts(t, w, int(id)+1, id, id)
		}
		for now := 0; now < 1000; now += step {
			ticks(t, w, step, count(int64(now), min(step, 1000-now))...)
		}
	}
}

// P13.4

// started is a wheel with many timers, none of 0 ticks.
func started(t *testing.T, now int, by int64) *wheel.Wheel {
	t.Helper()
	w := freshAt(t, most, now)
	for id := range int64(400) {
		starts(t, w, 1+int((id*id*by+id)%4321), id, id)
	}
	return w
}

func TestTicksInPartsAreTheSameAsAtOnce(t *testing.T) {
	const all = 4321
	for by := range int64(20) {
		now := int(by * by * 377 % 9999)
		whole := started(t, now, by).Tick(all)
		if len(whole) != 400 {
			t.Fatalf("%d expired", len(whole))
		}
		for part := 1; part <= all; part += 1 + part/3 {
			w := started(t, now, by)
			var ids []int64
			for n, left := part, all; left > 0; n, left = n*2%97+part, left-n {
				ids = append(ids, w.Tick(min(n, left))...)
				ids = append(ids, w.Tick(0)...)
			}
			if !slices.Equal(ids, whole) {
				t.Fatalf("in parts from %d: %d, not %d", part, ids, whole)
			}
			isWheel(t, w, now+all, 0)
		}
	}
}

// Each way to part a short stretch.
func TestEveryWayToPartAStretch(t *testing.T) {
	const all = 12
	for _, now := range []int{0, 58, 60, 63, 64, 4090, 1<<18 - 6} {
		for cuts := range 1 << (all - 1) {
			w := freshAt(t, 20, now)
			for id := range int64(all) {
				w.Start(all-int(id), 0)
			}
			var ids []int64
			n := 1
			for i := range all {
				if i == all-1 || cuts>>i&1 == 1 {
					ids = append(ids, w.Tick(n)...)
					n = 0
				}
				n++
			}
			for i, id := range ids {
				if id != int64(all-1-i) {
					t.Fatalf("at %d, cuts %b: %d", now, cuts, ids)
				}
			}
			isWheel(t, w, now+all, 0)
		}
	}
}
