package links_test

import (
	"math"
	"math/rand"
	"slices"
	"strconv"
	"testing"

	"troupe/api"
	"troupe/links"
)

// model is a plain list of links and a plain list of monitors, which are searched from their beginning, and does what the chapter's words say, as slowly as they say it.
type model struct {
	links    [][2]int64
	monitors []monitor
	given    int64
}

// monitor is a reference, and whose it is.
type monitor struct{ ref, who, whom int64 }

// find is the place of a link; -1, if they are not linked.
func (m *model) find(a, b int64) int {
	for i, l := range m.links {
		if l[0] == a && l[1] == b || l[0] == b && l[1] == a {
			return i
		}
	}
	return -1
}

// link links two.
func (m *model) link(a, b int64) bool {
	if a == b || m.find(a, b) >= 0 {
		return false
	}
	m.links = append(m.links, [2]int64{a, b})
	return true
}

// unlink parts them.
func (m *model) unlink(a, b int64) bool {
	i := m.find(a, b)
	if i < 0 {
		return false
	}
	m.links = slices.Delete(m.links, i, i+1)
	return true
}

// linked are all that one is linked to.
func (m *model) linked(a int64) []int64 {
	var others []int64
	for _, l := range m.links {
		if l[0] == a {
			others = append(others, l[1])
		}
		if l[1] == a {
			others = append(others, l[0])
		}
	}
	slices.Sort(others)
	return others
}

// monitor gives a reference.
func (m *model) monitor(who, whom int64) int64 {
	m.monitors = append(m.monitors, monitor{m.given, who, whom})
	m.given++
	return m.given - 1
}

// watches is a monitor.
func (m *model) watches(ref int64) (monitor, bool) {
	for _, x := range m.monitors {
		if x.ref == ref {
			return x, true
		}
	}
	return monitor{}, false
}

// watchers are the references to one.
func (m *model) watchers(whom int64) []int64 {
	var refs []int64
	for _, x := range m.monitors {
		if x.whom == whom {
			refs = append(refs, x.ref)
		}
	}
	slices.Sort(refs)
	return refs
}

// demonitor takes a reference back, or tells what is wrong.
func (m *model) demonitor(ref, who int64) api.Errno {
	x, there := m.watches(ref)
	switch {
	case !there:
		return api.ErrNone
	case x.who != who:
		return api.ErrArg
	}
	m.monitors = slices.DeleteFunc(m.monitors, func(x monitor) bool { return x.ref == ref })
	return api.OK
}

// end is one's end.
func (m *model) end(a int64) ([]int64, []int64) {
	others, refs := m.linked(a), m.watchers(a)
	m.links = slices.DeleteFunc(m.links, func(l [2]int64) bool { return l[0] == a || l[1] == a })
	m.monitors = slices.DeleteFunc(m.monitors, func(x monitor) bool { return x.who == a || x.whom == a })
	return others, refs
}

// isAs asks whether a net says what the model says, of all that are known, and of some more.
func (m *model) isAs(t *testing.T, n *links.Net, more ...int64) {
	t.Helper()
	isLen(t, n, len(m.links), len(m.monitors))
	ones := slices.Clone(more)
	for _, l := range m.links {
		ones = append(ones, l[0], l[1])
	}
	for _, x := range m.monitors {
		ones = append(ones, x.who, x.whom)
	}
	slices.Sort(ones)
	for _, a := range slices.Compact(ones) {
		isLinked(t, n, a, m.linked(a)...)
		isWatched(t, n, a, m.watchers(a)...)
	}
	for ref := int64(-2); ref < m.given+2; ref++ {
		x, there := m.watches(ref)
		if who, whom, ok := n.Watches(ref); who != x.who || whom != x.whom || ok != there {
			t.Fatalf("Watches(%d): %d, %d, %t, not %d, %d, %t", ref, who, whom, ok, x.who, x.whom, there)
		}
	}
}

// The calls that turn a net, or may be refused.
const (
	doLink = iota
	doUnlink
	doMonitor
	doDemonitor
	doEnd
)

// call is one of them, and what it is of.
type call struct {
	kind int
	a, b int64
}

// plain does one thing with a net, asks for nothing else, and tells the answer as a text.
func plain(n *links.Net, c call) string {
	switch c.kind {
	case doLink:
		return strconv.FormatBool(n.Link(c.a, c.b))
	case doUnlink:
		return strconv.FormatBool(n.Unlink(c.a, c.b))
	case doMonitor:
		return number(n.Monitor(c.a, c.b))
	case doDemonitor:
		return told(n.Demonitor(c.a, c.b))
	}
	linked, refs := n.End(c.a)
	return numbers(linked) + numbers(refs)
}

// told is an error as a text.
func told(err error) string {
	if f, ok := err.(*api.Fault); ok {
		return f.Error() + " " + strconv.Itoa(f.N)
	}
	if err != nil {
		return "no Fault: " + err.Error()
	}
	return "gone"
}

// says does one thing with the model, and tells the answer as a text.
func (m *model) says(c call) string {
	switch c.kind {
	case doLink:
		return strconv.FormatBool(m.link(c.a, c.b))
	case doUnlink:
		return strconv.FormatBool(m.unlink(c.a, c.b))
	case doMonitor:
		return number(m.monitor(c.a, c.b))
	case doDemonitor:
		if kind := m.demonitor(c.a, c.b); kind != api.OK {
			return told(&api.Fault{Op: "demonitor", N: int(uint64(c.a) % (1 << 31)), Err: kind})
		}
		return told(nil)
	}
	linked, refs := m.end(c.a)
	return numbers(linked) + numbers(refs)
}

// both does one thing with a net and with the model, and holds the answers against each other.
func both(t *testing.T, n *links.Net, m *model, c call) {
	t.Helper()
	if got, want := plain(n, c), m.says(c); got != want {
		t.Fatalf("%d: %s, not %s", c, got, want)
	}
}

// All short scripts, of two and of three who do all that they can.
func TestShortScriptsAreAsTheModelSays(t *testing.T) {
	two := []call{{doLink, 0, 1}, {doUnlink, 1, 0}, {doMonitor, 0, 1}, {doMonitor, 1, 1}, {doDemonitor, 0, 0}, {doDemonitor, 1, 1}, {doEnd, 0, 0}, {doEnd, 1, 0}}
	three := []call{{doLink, 1, 2}, {doLink, 2, 3}, {doLink, 3, 1}, {doUnlink, 2, 1}, {doMonitor, 1, 2}, {doMonitor, 2, 1}, {doMonitor, 3, 2}, {doDemonitor, 0, 1}, {doDemonitor, 1, 2}, {doEnd, 1, 0}, {doEnd, 2, 0}}
	for _, c := range []struct {
		calls  []call
		length int
	}{{two, 6}, {three, 5}} {
		all := 1
		for range c.length {
			all *= len(c.calls)
		}
		for script := range all {
			var n links.Net
			var m model
			for rest, step := script, 0; step < c.length; step++ {
				both(t, &n, &m, c.calls[rest%len(c.calls)])
				rest /= len(c.calls)
			}
			m.isAs(t, &n, 0, 1, 2, 3)
		}
	}
}

// chance makes scripts.
type chance struct {
	*rand.Rand
	ones []int64 // of whom they are
	ends int     // how many of a thousand calls end one
}

// newChance makes scripts of some ones, more of them or less.
func newChance(seed int64) *chance {
	r := &chance{Rand: rand.New(rand.NewSource(seed)), ends: int(seed*seed) % 90}
	for range 2 + r.Intn(12) {
		r.ones = append(r.ones, int64(r.Intn(40)-10))
	}
	for range r.Intn(4) {
		r.ones = append(r.ones, odd()[r.Intn(len(odd()))])
	}
	return r
}

// one is one by chance: mostly one of the few, so that they have to do with one another.
func (r *chance) one() int64 {
	if r.Intn(50) == 0 {
		return int64(r.Uint64()) >> r.Intn(64)
	}
	return r.ones[r.Intn(len(r.ones))]
}

// ref is a reference by chance, and mostly whose it is.
func (r *chance) ref(m *model) (int64, int64) {
	if r.Intn(10) == 0 {
		return []int64{-1, m.given, m.given + 1<<31, m.given - 1 + 1<<32, math.MinInt64, math.MaxInt64, int64(r.Uint64()) >> r.Intn(64)}[r.Intn(7)], r.one()
	}
	if r.Intn(3) == 0 || len(m.monitors) == 0 {
		return r.Int63n(m.given + 2), r.one()
	}
	x := m.monitors[r.Intn(len(m.monitors))]
	return x.ref, []int64{x.who, x.who, x.who, x.whom, r.one()}[r.Intn(5)]
}

// call is a call by chance.
func (r *chance) call(m *model) call {
	if r.Intn(1000) < r.ends {
		return call{kind: doEnd, a: r.one()}
	}
	switch dice := r.Intn(10); {
	case dice < 3:
		return call{doLink, r.one(), r.one()}
	case dice < 4:
		return call{doUnlink, r.one(), r.one()}
	case dice < 5 && len(m.links) > 0:
		l := m.links[r.Intn(len(m.links))]
		i := r.Intn(2)
		return call{doUnlink, l[i], l[1-i]}
	case dice < 8:
		return call{doMonitor, r.one(), r.one()}
	}
	ref, who := r.ref(m)
	return call{doDemonitor, ref, who}
}

// Long scripts by chance.
func TestLongScriptsAreAsTheModelSays(t *testing.T) {
	for seed := range int64(300) {
		r := newChance(seed)
		var n links.Net
		var m model
		for range 800 {
			both(t, &n, &m, r.call(&m))
			if r.Intn(100) == 0 {
				m.isAs(t, &n, r.ones...)
			}
		}
		m.isAs(t, &n, append(odd(), r.ones...)...)
		for _, a := range r.ones {
			both(t, &n, &m, call{kind: doEnd, a: a})
		}
		m.isAs(t, &n, r.ones...)
	}
}

// R4: what is asked between turns nothing, and the same calls get the same answers again.
func TestScriptsAnswerTheSameAgain(t *testing.T) {
	for seed := range int64(30) {
		var all [3][]string
		var other links.Net // another net's calls are nothing to this one
		for i := range all {
			r := newChance(seed)
			var n links.Net
			var m model
			for step := range 500 {
				c := r.call(&m)
				plain(&other, c)
				all[i] = append(all[i], plain(&n, c))
				plain(&other, c)
				m.says(c)
				if i == 2 && step%20 == 0 {
					m.isAs(t, &n, r.ones...)
				}
			}
		}
		if !slices.Equal(all[0], all[1]) || !slices.Equal(all[0], all[2]) {
			t.Fatalf("seed %d: not the same again", seed)
		}
	}
}
