package wheel_test

import (
	"math"
	"slices"
	"testing"

	"troupe/api"
	"troupe/fault"
	"troupe/wheel"
)

const most = api.MaxTimers

// The chapter's example.
func TestExample(t *testing.T) {
	w := fresh(t, 2)
	starts(t, w, 3, 70, 0)
	starts(t, w, 1, 71, 1)
	ticks(t, w, 2, 1)
	isThere(t, w, 0, 1, 70)
	ticks(t, w, 1, 0)
	isWheel(t, w, 3, 0)
}

// P13.1

func TestNewOfWrongNumbers(t *testing.T) {
	for _, n := range []int{0, -1, -2, most + 1, most + 2, 2 * most, 1 << 31, -1 << 31, math.MinInt, math.MinInt + 1, math.MaxInt} {
		w, err := wheel.New(n)
		if w != nil {
			t.Errorf("New(%d): a wheel", n)
		}
		refused(t, err, api.ErrArg, "wheel", n)
	}
}

func TestNewHasNoTimers(t *testing.T) {
	for _, n := range []int{1, 2, 3, most - 1, most} {
		w := fresh(t, n)
		isGone(t, w, 0, 1, int64(n), -1)
		ticks(t, w, 0)
		ticks(t, w, 5)
		isWheel(t, w, 5, 0)
	}
}

// As many timers as New was told, no fewer and no more.
func TestNewOfEachMost(t *testing.T) {
	for _, n := range []int{1, 2, 3, 100, most - 1, most} {
		w := fresh(t, n)
		for i := range n {
			starts(t, w, i, 0, int64(i))
		}
		noStart(t, w, 1, api.ErrFull)
	}
}

// P13.2, Start

func TestStartOfEveryLength(t *testing.T) {
	lengths := []int{0, 1, 2, 3, stretch - 1, stretch, stretch + 1, longest - 2, longest - 1, longest}
	for i := range 31 {
		lengths = append(lengths, 1<<i, 1<<i-1, 1<<i/3)
	}
	for _, now := range []int{0, 1, 63, 64, 1000000} {
		w := freshAt(t, most, now)
		for i, n := range lengths {
			starts(t, w, n, 7, int64(i))
		}
	}
}

func TestStartOfWrongNumbers(t *testing.T) {
	w := fresh(t, 3)
	wrong := []int{-1, -2, -64, longest + 1, longest + 2, 2 * longest, 1 << 32, 1 << 40, math.MinInt, math.MinInt + 1, math.MaxInt, math.MaxInt - 1, -longest}
	for i := range 3 {
		for _, n := range wrong {
			noStart(t, w, n, api.ErrArg)
		}
		starts(t, w, 9, 7, int64(i)) // the refused ones have used up no id
		ticks(t, w, 1)
	}
	for _, n := range wrong {
		noStart(t, w, n, api.ErrArg) // it is full too
	}
	isThere(t, w, 0, 6, 7)
	isThere(t, w, 2, 8, 7)
	isGone(t, w, 3)
}

func TestWhatMayBeAnyNumber(t *testing.T) {
	whats := []int64{0, 1, -1, 70, math.MinInt64, math.MaxInt64, math.MinInt64 + 1, math.MaxInt64 - 1}
	for i := range 63 {
		whats = append(whats, 1<<i, -1<<i, 1<<i+1)
	}
	w := fresh(t, most)
	for i, what := range whats {
		starts(t, w, i, what, int64(i))
	}
	for i, what := range whats {
		isThere(t, w, int64(i), i, what)
	}
	ticks(t, w, 0, 0)
	for i, what := range whats[1:] {
		isThere(t, w, int64(i+1), 1, what)
		ticks(t, w, 1, int64(i+1))
	}
}

func TestIdsGoOnBehindWhatIsGone(t *testing.T) {
	w := fresh(t, 2)
	for id := int64(0); id < 3000; id += 3 {
		starts(t, w, 5, id, id)
		starts(t, w, 2, id, id+1)
		noStart(t, w, 2, api.ErrFull)
		cancels(t, w, id, 5)
		ticks(t, w, 2, id+1)
		starts(t, w, 0, id, id+2)
		ticks(t, w, 0, id+2)
		isGone(t, w, id+3)
	}
}

func TestStartWhereMostAreThere(t *testing.T) {
	for _, n := range []int{1, 2, 5, most} {
		w := fresh(t, n)
		for i := range n {
			starts(t, w, 10, int64(i), int64(i))
		}
		for _, wrong := range []int{0, 1, 10, longest} {
			noStart(t, w, wrong, api.ErrFull)
		}
		for _, wrong := range []int{-1, longest + 1, math.MinInt, math.MaxInt} {
			noStart(t, w, wrong, api.ErrArg)
		}
		for i := range n {
			isThere(t, w, int64(i), 10, int64(i))
		}
		isGone(t, w, int64(n))
		ticks(t, w, 9)
		noStart(t, w, 1, api.ErrFull)
		ticks(t, w, 1, count(0, n)...)
		starts(t, w, 4, 9, int64(n))
	}
}

func TestRoomAgainBehindOneThatExpired(t *testing.T) {
	w := fresh(t, 3)
	starts(t, w, 4, 0, 0)
	starts(t, w, 2, 0, 1)
	starts(t, w, 0, 0, 2)
	noStart(t, w, 3, api.ErrFull)
	ticks(t, w, 0, 2)
	starts(t, w, 7, 0, 3)
	noStart(t, w, 3, api.ErrFull)
	ticks(t, w, 3, 1)
	starts(t, w, 8, 0, 4)
	noStart(t, w, 3, api.ErrFull)
	ticks(t, w, 8, 0, 3, 4)
	isWheel(t, w, 11, 0)
}

func TestRoomAgainBehindOneThatWasCancelled(t *testing.T) {
	w := fresh(t, 2)
	starts(t, w, 4, 0, 0)
	starts(t, w, 2, 0, 1)
	for id := range int64(100) {
		noStart(t, w, 3, api.ErrFull)
		cancels(t, w, id, 4-2*int(id%2))
		starts(t, w, 4-2*int(id%2), 0, id+2)
	}
	isThere(t, w, 100, 4, 0)
	isThere(t, w, 101, 2, 0)
}

// P13.2, Cancel, Left, What

func TestLeftGoesDown(t *testing.T) {
	w := fresh(t, 5)
	starts(t, w, 100, 1, 0)
	starts(t, w, longest, 2, 1)
	for now := range 100 {
		isThere(t, w, 0, 100-now, 1)
		isThere(t, w, 1, longest-now, 2)
		ticks(t, w, 0)
		if now < 99 {
			ticks(t, w, 1)
		}
	}
	isThere(t, w, 0, 1, 1)
	starts(t, w, 1, 3, 2)
	starts(t, w, 0, 4, 3)
	isThere(t, w, 3, 0, 4)
	ticks(t, w, 1, 3, 0, 2)
	isThere(t, w, 1, longest-100, 2)
}

func TestCancelTellsWhatWasLeft(t *testing.T) {
	for _, n := range []int{0, 1, 2, 63, 64, 65, 4095, 4096, 4097, 1 << 18, 1 << 24, longest - 1, longest} {
		for _, gone := range []int{0, 1, 2, 62, 63, 64, 4095, n / 2, n - 2, n - 1} {
			if gone < 0 || gone >= max(n, 1) {
				continue
			}
			w := fresh(t, 1)
			starts(t, w, n, 9, 0)
			goTo(t, w, gone)
			isThere(t, w, 0, n-gone, 9)
			cancels(t, w, 0, n-gone)
			cancelledNeverExpires(t, w)
		}
	}
}

// cancelledNeverExpires goes on by more than any timer may wait.
func cancelledNeverExpires(t *testing.T, w *wheel.Wheel) {
	t.Helper()
	isWheel(t, w, w.Now(), 0)
	for range longest/stretch + 2 {
		ticks(t, w, stretch)
	}
	isGone(t, w, 0)
}

func TestIdsThatWereNeverGiven(t *testing.T) {
	w := fresh(t, 9)
	starts(t, w, 5, 70, 0)
	starts(t, w, 6, 71, 1)
	ids := []int64{2, 3, 4, -1, -2, -1 << 31, 1<<31 - 1, math.MinInt64, math.MinInt64 + 1, math.MaxInt64, math.MaxInt64 - 1}
	for i := 30; i < 63; i++ {
		ids = append(ids, 1<<i, 1<<i+1, -1<<i, -1<<i+1) // those above all are as 0 and 1 by their lowest 31 bits
	}
	isGone(t, w, ids...)
	isThere(t, w, 0, 5, 70)
	isThere(t, w, 1, 6, 71)
	ticks(t, w, 6, 0, 1)
}

// What a Fault tells of an id, as numbers.
func TestFaultsTellTheLowestBits(t *testing.T) {
	w := fresh(t, 1)
	cases := []struct {
		id   int64
		bits int
	}{
		{0, 0}, {5, 5}, {-1, 2147483647}, {-2, 2147483646}, {2147483647, 2147483647}, {2147483648, 0}, {2147483653, 5},
		{4294967296, 0}, {4294967303, 7}, {-2147483648, 0}, {-2147483649, 2147483647}, {math.MinInt64, 0}, {math.MaxInt64, 2147483647},
	}
	for _, c := range cases {
		_, err := w.Cancel(c.id)
		refused(t, err, api.ErrNone, "cancel", c.bits)
		_, err = w.Left(c.id)
		refused(t, err, api.ErrNone, "left", c.bits)
		_, err = w.What(c.id)
		refused(t, err, api.ErrNone, "what", c.bits)
	}
}

func TestGoneStaysGone(t *testing.T) {
	w := fresh(t, 4)
	starts(t, w, 5, 70, 0)
	starts(t, w, 5, 71, 1)
	starts(t, w, 0, 72, 2)
	cancels(t, w, 0, 5)
	ticks(t, w, 1, 2)
	isGone(t, w, 0, 2)
	starts(t, w, 4, 73, 3)
	isGone(t, w, 0, 2)
	ticks(t, w, 4, 1, 3)
	starts(t, w, 1, 74, 4)
	isGone(t, w, 0, 1, 2, 3)
	ticks(t, w, 1, 4)
	isGone(t, w, 0, 1, 2, 3, 4)
}

// Neighbours of what is cancelled stay: the first, the last, one between, all of those at one time.
func TestCancelInEveryOrder(t *testing.T) {
	for order := range 5 * 4 * 3 * 2 {
		for _, n := range []int{0, 1, 40, 64, 5000, longest} {
			w, left := fresh(t, 5), count(0, 5)
			for _, id := range left {
				starts(t, w, n, id, id)
			}
			for rest, some := order, 5; some > 2; some-- {
				at := rest % some
				rest /= some
				cancels(t, w, left[at], n)
				left = append(left[:at:at], left[at+1:]...)
			}
			goTo(t, w, n-1)
			ticks(t, w, 1, left...)
		}
	}
}

// P13.3

func TestTickGoesOnByJustThat(t *testing.T) {
	cases := [][2]int{
		{0, 0}, {1, 1}, {2, 2}, {-1, 0}, {-5, 0}, {math.MinInt, 0}, {math.MinInt + 1, 0}, {-stretch, 0}, {-1 << 32, 0}, {1<<32 + 1, stretch},
		{stretch - 1, stretch - 1}, {stretch, stretch}, {stretch + 1, stretch}, {2 * stretch, stretch}, {longest, stretch}, {math.MaxInt, stretch}, {math.MaxInt - 1, stretch},
	}
	w, now := fresh(t, 3), 0
	starts(t, w, longest, 0, 0)
	for _, c := range cases {
		if ids := w.Tick(c[0]); len(ids) != 0 {
			t.Fatalf("Tick(%d): %d", c[0], ids)
		}
		now += c[1]
		isWheel(t, w, now, 1)
		isThere(t, w, 0, longest-now, 0)
	}
}

func TestTickReachesNoFurtherThanItGoes(t *testing.T) {
	for _, n := range []int{stretch, stretch + 1, 2 * stretch, math.MaxInt} {
		w := fresh(t, 9)
		starts(t, w, stretch+1, 0, 0)
		starts(t, w, stretch, 0, 1)
		starts(t, w, stretch-1, 0, 2)
		ticks(t, w, n, 2, 1)
		isThere(t, w, 0, 1, 0)
	}
	for _, n := range []int{0, -1, math.MinInt} {
		w := fresh(t, 9)
		starts(t, w, 1, 0, 0)
		ticks(t, w, n)
		isThere(t, w, 0, 1, 0)
		ticks(t, w, 1, 0)
	}
}

func TestByTimeThenById(t *testing.T) {
	w := fresh(t, 20)
	for i, n := range []int{9, 7, 9, 8, 7, 7, 9, 3, 70, 65, 70, 64} {
		starts(t, w, n, 0, int64(i))
	}
	ticks(t, w, 100, 7, 1, 4, 5, 3, 0, 2, 6, 11, 9, 8, 10)
}

// Of one time are timers that were started far ahead of it and shortly.
func TestByIdWhenStartedAtManyTimes(t *testing.T) {
	for _, at := range []int{64, 100, 128, 4096, 5000, 1 << 18, 1<<18 + 4096 + 64, 1 << 20} {
		w := fresh(t, most)
		var due []int64
		for id := int64(0); w.Now() < at; id++ {
			starts(t, w, at-w.Now(), 0, id)
			due = append(due, id)
			if at-w.Now() > 1 {
				ticks(t, w, (at-w.Now())/2)
			} else {
				ticks(t, w, 1, due...)
			}
		}
	}
}

func TestTimersOfNoTicks(t *testing.T) {
	for _, now := range []int{0, 1, 63, 64, 65, 4095, 4096, 1 << 18, 1 << 24, 1<<24 + 1, longest} {
		for _, n := range []int{0, -1, math.MinInt, 1, 2, 63, 64, 4096, stretch, math.MaxInt} {
			w := freshAt(t, 9, now)
			starts(t, w, 0, 5, 0)
			starts(t, w, 1, 6, 1)
			starts(t, w, 0, 7, 2)
			starts(t, w, stretch, 7, 3)
			noStart(t, w, -1, api.ErrArg)
			isThere(t, w, 0, 0, 5)
			isThere(t, w, 2, 0, 7)
			switch {
			case n <= 0:
				ticks(t, w, n, 0, 2)
			case n < stretch:
				ticks(t, w, n, 0, 2, 1)
			default:
				ticks(t, w, n, 0, 2, 1, 3)
			}
		}
	}
}

// Those of no ticks are due at the time that is now, so ahead of all others.
func TestTimersOfNoTicksStandAheadOfOthers(t *testing.T) {
	w := fresh(t, 20)
	starts(t, w, 2, 0, 0)
	starts(t, w, 1, 0, 1)
	starts(t, w, 0, 0, 2)
	ticks(t, w, 0, 2)
	starts(t, w, 0, 0, 3)
	starts(t, w, 1, 0, 4)
	starts(t, w, 0, 0, 5)
	ticks(t, w, 5, 3, 5, 1, 4, 0)
	starts(t, w, 0, 0, 6)
	cancels(t, w, 6, 0)
	ticks(t, w, 0)
	ticks(t, w, 3)
}

// Every error is a chain, as layer 1 tells it.

func TestErrorsAreChains(t *testing.T) {
	w := fresh(t, 1)
	starts(t, w, 1, 0, 0)
	_, wrong := wheel.New(0)
	_, below := w.Start(-7, 0)
	_, full := w.Start(7, 0)
	_, gone := w.Cancel(1 << 31)
	_, none := w.Left(-1)
	_, never := w.What(9)
	cases := []struct {
		err  error
		kind api.Errno
		op   string
		n    int
		text string
	}{
		{wrong, api.ErrArg, "wheel", 0, "wheel: argument"}, {below, api.ErrArg, "start", -7, "start: argument"}, {full, api.ErrFull, "start", 7, "start: full"},
		{gone, api.ErrNone, "cancel", 0, "cancel: none"}, {none, api.ErrNone, "left", 1<<31 - 1, "left: none"}, {never, api.ErrNone, "what", 9, "what: none"},
	}
	for _, c := range cases {
		n, ok := fault.Number(c.err, c.op)
		if fault.Kind(c.err) != c.kind || !fault.Is(c.err, c.kind) || n != c.n || !ok || !slices.Equal(fault.Path(c.err), []string{c.op}) || c.err.Error() != c.text {
			t.Errorf("%v: not %q of %d", c.err, c.text, c.n)
		}
		if fault.Trim(c.err, 1) != error(c.kind) || fault.Trim(c.err, 2) != nil {
			t.Errorf("%v: more links than one Fault and its root", c.err)
		}
	}
}
