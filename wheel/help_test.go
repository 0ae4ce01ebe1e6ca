package wheel_test

import (
	"slices"
	"testing"

	"troupe/api"
	"troupe/wheel"
)

const (
	longest = 1 << 30 // the most ticks that a timer may wait
	stretch = 1 << 20 // the most ticks that a Tick goes on by
)

// fresh is a wheel without timers.
func fresh(t *testing.T, most int) *wheel.Wheel {
	t.Helper()
	w, err := wheel.New(most)
	if err != nil || w == nil {
		t.Fatalf("New(%d): %v", most, err)
	}
	isWheel(t, w, 0, 0)
	return w
}

// freshAt is a wheel without timers, at a time.
func freshAt(t *testing.T, most, now int) *wheel.Wheel {
	t.Helper()
	w := fresh(t, most)
	goTo(t, w, now)
	return w
}

// goTo goes on to a time up to which nothing may expire.
func goTo(t *testing.T, w *wheel.Wheel, now int) {
	t.Helper()
	for w.Now() < now {
		ticks(t, w, min(now-w.Now(), stretch))
	}
}

// isWheel asks for the time, and how many timers there are.
func isWheel(t *testing.T, w *wheel.Wheel, now, n int) {
	t.Helper()
	if w.Now() != now || w.Len() != n {
		t.Fatalf("Now %d, Len %d; not %d, %d", w.Now(), w.Len(), now, n)
	}
}

// starts starts a timer, which must be given this id.
func starts(t *testing.T, w *wheel.Wheel, ticks int, what, id int64) {
	t.Helper()
	n := w.Len()
	if got, err := w.Start(ticks, what); got != id || err != nil {
		t.Fatalf("Start(%d, %d): %d, not %d: %v", ticks, what, got, id, err)
	}
	isWheel(t, w, w.Now(), n+1)
	isThere(t, w, id, ticks, what)
}

// noStart starts a timer that must be refused.
func noStart(t *testing.T, w *wheel.Wheel, ticks int, kind api.Errno) {
	t.Helper()
	now, n := w.Now(), w.Len()
	id, err := w.Start(ticks, 5)
	if id != -1 {
		t.Fatalf("Start(%d): %d", ticks, id)
	}
	refused(t, err, kind, "start", ticks)
	isWheel(t, w, now, n)
}

// isThere asks twice for a timer that must be there.
func isThere(t *testing.T, w *wheel.Wheel, id int64, left int, what int64) {
	t.Helper()
	for range 2 {
		if n, err := w.Left(id); n != left || err != nil {
			t.Fatalf("Left(%d): %d, not %d: %v", id, n, left, err)
		}
		if n, err := w.What(id); n != what || err != nil {
			t.Fatalf("What(%d): %d, not %d: %v", id, n, what, err)
		}
	}
}

// cancels takes a timer away that must be there.
func cancels(t *testing.T, w *wheel.Wheel, id int64, left int) {
	t.Helper()
	now, n := w.Now(), w.Len()
	if got, err := w.Cancel(id); got != left || err != nil {
		t.Fatalf("Cancel(%d): %d, not %d: %v", id, got, left, err)
	}
	isWheel(t, w, now, n-1)
	isGone(t, w, id)
}

// isGone asks all that may be asked of a timer that is not there.
func isGone(t *testing.T, w *wheel.Wheel, ids ...int64) {
	t.Helper()
	now, n := w.Now(), w.Len()
	for _, id := range ids {
		bits := int(uint64(id) % (1 << 31))
		left, err := w.Left(id)
		refused(t, err, api.ErrNone, "left", bits)
		what, err := w.What(id)
		refused(t, err, api.ErrNone, "what", bits)
		stood, err := w.Cancel(id)
		refused(t, err, api.ErrNone, "cancel", bits)
		if left != 0 || what != 0 || stood != 0 {
			t.Fatalf("%d: Left %d, What %d, Cancel %d", id, left, what, stood)
		}
	}
	isWheel(t, w, now, n)
}

// ticks goes on, and asks which timers expire, that they are gone, and the time.
func ticks(t *testing.T, w *wheel.Wheel, n int, due ...int64) {
	t.Helper()
	now, there := w.Now(), w.Len()
	if ids := w.Tick(n); !slices.Equal(ids, due) {
		t.Fatalf("Tick(%d) at %d: %d, not %d", n, now, ids, due)
	}
	isWheel(t, w, now+min(max(n, 0), stretch), there-len(due))
	for _, id := range due {
		isGone(t, w, id)
	}
}

// count are n ids from the first one on.
func count(from int64, n int) []int64 {
	ids := make([]int64, n)
	for i := range ids {
		ids[i] = from + int64(i)
	}
	return ids
}

// refused asks for a chain of one Fault around a kind.
func refused(t *testing.T, err error, kind api.Errno, op string, n int) {
	t.Helper()
	f, ok := err.(*api.Fault)
	if !ok || f.Op != op || f.N != n || f.Err != error(kind) {
		t.Fatalf("%v: not a Fault %q of %d around %v", err, op, n, kind)
	}
}
