package wheel_test

import (
	"cmp"
	"math"
	"math/rand"
	"slices"
	"testing"

	"troupe/api"
	"troupe/wheel"
)

// model is a plain list of timers that is searched from its beginning, and does what the chapter's words say, as slowly as they say it.
type model struct {
	most, now int
	given     int64
	timers    []entry
}

// entry is a timer.
type entry struct {
	id, what int64
	at       int
}

// find is the place of a timer; -1, if it is not there.
func (m *model) find(id int64) int {
	for i, x := range m.timers {
		if x.id == id {
			return i
		}
	}
	return -1
}

func (m *model) start(ticks int, what int64) (int64, api.Errno) {
	if ticks < 0 || ticks > longest {
		return -1, api.ErrArg
	}
	if len(m.timers) == m.most {
		return -1, api.ErrFull
	}
	m.timers = append(m.timers, entry{m.given, what, m.now + ticks})
	m.given++
	return m.given - 1, api.OK
}

func (m *model) tick(n int) []int64 {
	m.now += min(max(n, 0), stretch)
	var due, left []entry
	for _, x := range m.timers {
		if x.at <= m.now {
			due = append(due, x)
		} else {
			left = append(left, x)
		}
	}
	m.timers = left
	slices.SortFunc(due, func(a, b entry) int { return cmp.Or(cmp.Compare(a.at, b.at), cmp.Compare(a.id, b.id)) })
	var ids []int64
	for _, x := range due {
		ids = append(ids, x.id)
	}
	return ids
}

// The calls that turn a wheel, or may be refused.
const (
	doStart = iota
	doTick
	doCancel
)

// call is one of them, and what it is of.
type call struct{ kind, n int }

// both does one thing with a wheel and with the model, and holds the answers against each other.
func both(t *testing.T, w *wheel.Wheel, m *model, c call) {
	t.Helper()
	switch c.kind {
	case doStart:
		what := int64(c.n)<<32 ^ m.given
		if id, kind := m.start(c.n, what); kind != api.OK {
			noStart(t, w, c.n, kind)
		} else {
			starts(t, w, c.n, what, id)
		}
	case doTick:
		ticks(t, w, c.n, m.tick(c.n)...)
	case doCancel:
		i := m.find(int64(c.n))
		if i < 0 {
			isGone(t, w, int64(c.n))
			return
		}
		left := m.timers[i].at - m.now
		m.timers = slices.Delete(m.timers, i, i+1)
		cancels(t, w, int64(c.n), left)
	}
}

// isAs asks whether a wheel says of itself, and of all that were started, what the model says.
func (m *model) isAs(t *testing.T, w *wheel.Wheel) {
	t.Helper()
	isWheel(t, w, m.now, len(m.timers))
	for _, x := range m.timers {
		isThere(t, w, x.id, x.at-m.now, x.what)
	}
	for id := max(0, m.given-50); id < m.given; id++ {
		if m.find(id) < 0 {
			isGone(t, w, id)
		}
	}
	isGone(t, w, -1, m.given, m.given+1)
}

// All short scripts, from the end of a turn on.
func TestShortScriptsAreAsTheModelSays(t *testing.T) {
	const length = 5
	calls := []call{{doStart, 0}, {doStart, 1}, {doStart, 2}, {doStart, 64}, {doTick, 0}, {doTick, 1}, {doTick, 2}, {doTick, 63}, {doCancel, 0}, {doCancel, 1}}
	all := 1
	for range length {
		all *= len(calls)
	}
	for script := range all {
		now := 63 * (script % 3)
		w, m := freshAt(t, 3, now), &model{most: 3, now: now}
		for rest, step := script, 0; step < length; step++ {
			both(t, w, m, calls[rest%len(calls)])
			rest /= len(calls)
		}
		m.isAs(t, w)
		both(t, w, m, call{doTick, 64})
		m.isAs(t, w)
	}
}

// chance makes scripts.
type chance struct {
	*rand.Rand
	waits, steps int // of how many bits the ticks of timers and of Ticks are at most
}

// bits is a number of at most that many bits, of each length as often, and often near to a power of two.
func (r *chance) bits(most int) int {
	n := 1 << r.Intn(most+1)
	switch r.Intn(4) {
	case 0:
		return n + r.Intn(3) - 1
	case 1:
		return n * r.Intn(64) >> 6
	}
	return r.Intn(n + 1)
}

// call is a call by chance.
func (r *chance) call(m *model) call {
	switch dice := r.Intn(100); {
	case dice < 2:
		wrong := []int{-1, -r.bits(30) - 1, longest + 1, longest + 1 + r.bits(30), math.MinInt, math.MaxInt}
		return call{doStart, wrong[r.Intn(len(wrong))]}
	case dice < 40:
		return call{doStart, min(r.bits(r.waits), longest)}
	case dice < 55:
		return call{doTick, r.bits(r.steps)}
	case dice < 70:
		return call{doTick, nearest(m) + r.Intn(3) - 1}
	case dice < 72:
		return call{doTick, []int{0, 0, -1, stretch, stretch + 1, math.MinInt, math.MaxInt}[r.Intn(7)]}
	case dice < 74 || len(m.timers) == 0:
		return call{doCancel, r.Intn(int(m.given)+3) - 1}
	case dice < 80:
		return call{doCancel, int(m.timers[r.Intn(len(m.timers))].id)}
	}
	return call{doTick, r.Intn(70)}
}

// Long scripts by chance.
func TestLongScriptsAreAsTheModelSays(t *testing.T) {
	for seed := range int64(300) {
		r := &chance{Rand: rand.New(rand.NewSource(seed))}
		r.waits, r.steps = 1+r.Intn(30), 1+r.Intn(21)
		n, now := 1+r.bits(9), r.bits(1+r.Intn(31))
		w, m := freshAt(t, n, now), &model{most: n, now: now}
		for range 600 {
			both(t, w, m, r.call(m))
			if r.Intn(20) == 0 {
				m.isAs(t, w)
			}
		}
		m.isAs(t, w)
		for len(m.timers) > 0 {
			both(t, w, m, call{doTick, stretch})
		}
		m.isAs(t, w)
	}
}

// R4: what is asked between turns nothing, and the same calls get the same answers again.
func TestScriptsAnswerTheSameAgain(t *testing.T) {
	for seed := range int64(12) {
		var all [3][]int64
		for i := range all {
			r := &chance{Rand: rand.New(rand.NewSource(seed)), waits: 20, steps: 12}
			w, m := fresh(t, 60), &model{most: 60}
			for range 500 {
				c := r.call(m)
				both(t, fresh(t, 1), &model{most: 1}, c) // another wheel's calls are nothing to this one
				all[i] = append(all[i], plain(w, m, c)...)
				if i == 2 {
					m.isAs(t, w)
				}
			}
		}
		if !slices.Equal(all[0], all[1]) || !slices.Equal(all[0], all[2]) {
			t.Fatalf("seed %d: not the same again", seed)
		}
	}
}

// plain does one thing, and asks for nothing else.
func plain(w *wheel.Wheel, m *model, c call) []int64 {
	switch c.kind {
	case doStart:
		what := int64(c.n) + m.given
		m.start(c.n, what)
		id, _ := w.Start(c.n, what)
		return []int64{id}
	case doTick:
		m.tick(c.n)
		return w.Tick(c.n)
	}
	if i := m.find(int64(c.n)); i >= 0 {
		m.timers = slices.Delete(m.timers, i, i+1)
	}
	left, _ := w.Cancel(int64(c.n))
	return []int64{int64(left)}
}
