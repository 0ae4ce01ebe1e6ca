package ptab_test

import (
	"math"
	"math/rand"
	"slices"
	"strings"
	"testing"

	"troupe/api"
	"troupe/ptab"
)

// model is a plain list of all numbers that were ever given and a plain list of names, which are searched from their beginning, and does what the chapter's words say, as slowly as they say it.
type model struct {
	size  int
	given []number
	names []name
}

// number is one that was given.
type number struct {
	pid  int64
	gone bool
}

// name is a name, and whose it is.
type name struct {
	text string
	pid  int64
}

// kind is what is wrong with a number.
func (m *model) kind(pid int64) api.Errno {
	for _, x := range m.given {
		if x.pid == pid && x.gone {
			return api.ErrStale
		}
		if x.pid == pid {
			return api.OK
		}
	}
	return api.ErrNone
}

// add is the number that comes next; -1, if none is free.
func (m *model) add() int64 {
	for at := range int64(m.size) {
		next, free := at, true
		for _, x := range m.given {
			if x.pid%above == at {
				next += above
				free = free && x.gone
			}
		}
		if free {
			m.given = append(m.given, number{pid: next})
			return next
		}
	}
	return -1
}

// drop takes a number that is there away, and its names, and tells which.
func (m *model) drop(pid int64) []string {
	for i := range m.given {
		if m.given[i].pid == pid {
			m.given[i].gone = true
		}
	}
	var gone []string
	var left []name
	for _, x := range m.names {
		if x.pid == pid {
			gone = append(gone, x.text)
		} else {
			left = append(left, x)
		}
	}
	m.names = left
	slices.Sort(gone)
	return gone
}

// find is the place of a name; -1, if it is nobody's.
func (m *model) find(text string) int {
	for i, x := range m.names {
		if x.text == text {
			return i
		}
	}
	return -1
}

// register gives a name, or tells what is wrong.
func (m *model) register(text string, pid int64) api.Errno {
	kind := m.kind(pid)
	switch {
	case len(text) == 0, len(text) > 255:
		return api.ErrArg
	case kind != api.OK:
		return kind
	case m.find(text) >= 0:
		return api.ErrTaken
	case len(m.names) >= api.MaxNames:
		return api.ErrFull
	}
	m.names = append(m.names, name{text, pid})
	return api.OK
}

// all are those who are there, by slot, and all names.
func (m *model) all() ([]int64, []string) {
	var pids []int64
	for at := range int64(m.size) {
		for _, x := range m.given {
			if !x.gone && x.pid%above == at {
				pids = append(pids, x.pid)
			}
		}
	}
	var texts []string
	for _, x := range m.names {
		texts = append(texts, x.text)
	}
	slices.Sort(texts)
	return pids, texts
}

// isAs asks whether a table says what the model says, of all who were given, of those near to them, and of all names.
func (m *model) isAs(t *testing.T, tab *ptab.Table) {
	t.Helper()
	pids, texts := m.all()
	isTable(t, tab, pids, texts...)
	for _, x := range m.given {
		for _, pid := range []int64{x.pid - above, x.pid, x.pid + 1, x.pid + above} {
			m.isOne(t, tab, pid)
		}
	}
	for at := range int64(m.size + 2) {
		m.isOne(t, tab, at)
	}
	for _, x := range m.names {
		isWhose(t, tab, x.pid, x.text)
	}
}

// isOne asks whether a table says of a number what the model says.
func (m *model) isOne(t *testing.T, tab *ptab.Table, pid int64) {
	t.Helper()
	if kind := m.kind(pid); kind != api.OK {
		wrong(t, tab, kind, pid)
	} else {
		lives(t, tab, pid)
	}
}

// The calls that turn a table, or may be refused.
const (
	doAdd = iota
	doDrop
	doRegister
	doUnregister
)

// call is one of them, and what it is of.
type call struct {
	kind int
	pid  int64
	name string
}

// both does one thing with a table and with the model, and holds the answers against each other.
func both(t *testing.T, tab *ptab.Table, m *model, c call) {
	t.Helper()
	switch c.kind {
	case doAdd:
		if pid := m.add(); pid < 0 {
			noAdd(t, tab, m.size)
		} else {
			adds(t, tab, pid)
		}
	case doDrop:
		if kind := m.kind(c.pid); kind != api.OK {
			wrong(t, tab, kind, c.pid)
		} else {
			drops(t, tab, c.pid, m.drop(c.pid)...)
		}
	case doRegister:
		if kind := m.register(c.name, c.pid); kind != api.OK {
			noRegister(t, tab, kind, c.pid, c.name)
		} else {
			registers(t, tab, c.pid, c.name)
		}
	case doUnregister:
		if i := m.find(c.name); i < 0 {
			isNobodys(t, tab, c.name)
		} else {
			m.names = slices.Delete(m.names, i, i+1)
			unregisters(t, tab, c.name)
		}
	}
}

// All short scripts, on an empty table and on one with two who are there.
func TestShortScriptsAreAsTheModelSays(t *testing.T) {
	calls := []call{{kind: doAdd}, {kind: doDrop}, {kind: doDrop, pid: 1}, {kind: doDrop, pid: above}, {kind: doRegister, name: "a"}, {kind: doRegister, pid: 1, name: "a"}, {kind: doRegister, pid: 1, name: "b"}, {kind: doRegister, pid: above, name: "b"}, {kind: doUnregister, name: "a"}}
	for _, c := range []struct{ there, length int }{{0, 5}, {2, 4}} {
		all := 1
		for range c.length {
			all *= len(calls)
		}
		for script := range all {
			tab, m := fresh(t, 2), &model{size: 2}
			for range c.there {
				both(t, tab, m, call{kind: doAdd})
			}
			for rest, step := script, 0; step < c.length; step++ {
				both(t, tab, m, calls[rest%len(calls)])
				rest /= len(calls)
			}
			m.isAs(t, tab)
		}
	}
}

// chance makes scripts.
type chance struct {
	*rand.Rand
	grow int // how many of a hundred calls add one
}

// pid is a number by chance: mostly of one that is there, else of one that was given, or near to it, or any.
func (r *chance) pid(m *model) int64 {
	if pids, _ := m.all(); len(pids) > 0 && r.Intn(10) < 8 {
		return pids[r.Intn(len(pids))]
	}
	switch dice := r.Intn(10); {
	case dice < 2 && len(m.given) > 0:
		return m.given[r.Intn(len(m.given))].pid
	case dice < 4 && len(m.given) > 0:
		return m.given[r.Intn(len(m.given))].pid + above*int64(r.Intn(5)-2) + int64(r.Intn(3)-1)
	case dice < 6:
		return int64(r.Intn(4*above) - above)
	case dice < 8:
		return int64(r.Uint64()) >> r.Intn(64)
	}
	return []int64{math.MinInt64, math.MaxInt64, -1, int64(m.size)}[r.Intn(4)]
}

// name is a name by chance, out of some more than may be there at once.
func (r *chance) name() string {
	switch dice := r.Intn(100); {
	case dice < 2:
		return strings.Repeat("l", []int{0, 255, 256, 300}[r.Intn(4)])
	case dice < 30:
		return odd()[r.Intn(len(odd()))]
	}
	return filler(r.Intn(2 * api.MaxNames))
}

// call is a call by chance.
func (r *chance) call(m *model) call {
	switch dice := r.Intn(100); {
	case dice < r.grow:
		return call{kind: doAdd}
	case dice < 20:
		return call{kind: doDrop, pid: r.pid(m)}
	case dice < 90:
		return call{kind: doRegister, pid: r.pid(m), name: r.name()}
	}
	if len(m.names) > 0 && r.Intn(2) == 0 {
		return call{kind: doUnregister, name: m.names[r.Intn(len(m.names))].text}
	}
	return call{kind: doUnregister, name: r.name()}
}

// Long scripts by chance.
func TestLongScriptsAreAsTheModelSays(t *testing.T) {
	most := 0
	for seed := range int64(150) {
		r := &chance{rand.New(rand.NewSource(seed)), 2 + int(seed%18)}
		size := 1 + r.Intn(1+r.Intn(api.MaxProcs))
		tab, m := fresh(t, size), &model{size: size}
		for range 600 {
			both(t, tab, m, r.call(m))
			if r.Intn(200) == 0 {
				m.isAs(t, tab)
			}
			most = max(most, len(m.names))
		}
		m.isAs(t, tab)
		pids, _ := m.all()
		for _, pid := range pids {
			both(t, tab, m, call{kind: doDrop, pid: pid})
		}
		m.isAs(t, tab)
	}
	if most != api.MaxNames {
		t.Errorf("no script came to more than %d names", most)
	}
}

// R4: what is asked between turns nothing, and the same calls get the same answers again.
func TestScriptsAnswerTheSameAgain(t *testing.T) {
	for seed := range int64(20) {
		var all [3][]string
		for i := range all {
			r := &chance{rand.New(rand.NewSource(seed)), 9}
			tab, m := fresh(t, 9), &model{size: 9}
			for step := range 400 {
				c := r.call(m)
				both(t, fresh(t, 1), &model{size: 1}, c) // another table's calls are nothing to this one
				all[i] = append(all[i], plain(tab, c))
				both(t, fresh(t, 1), &model{size: 1}, c)
				follow(m, c)
				if i == 2 && step%20 == 0 {
					m.isAs(t, tab)
				}
			}
		}
		if !slices.Equal(all[0], all[1]) || !slices.Equal(all[0], all[2]) {
			t.Fatalf("seed %d: not the same again", seed)
		}
	}
}

// follow does one thing with the model alone.
func follow(m *model, c call) {
	switch c.kind {
	case doAdd:
		m.add()
	case doDrop:
		if m.kind(c.pid) == api.OK {
			m.drop(c.pid)
		}
	case doRegister:
		m.register(c.name, c.pid)
	case doUnregister:
		if i := m.find(c.name); i >= 0 {
			m.names = slices.Delete(m.names, i, i+1)
		}
	}
}

// plain does one thing with a table, asks for nothing else, and tells the answer as a text.
func plain(tab *ptab.Table, c call) string {
	switch c.kind {
	case doAdd:
		pid, err := tab.Add()
		return told(err, string(rune(pid+2)))
	case doDrop:
		gone, err := tab.Drop(c.pid)
		return told(err, gone...)
	case doRegister:
		return told(tab.Register(c.name, c.pid))
	}
	return told(tab.Unregister(c.name))
}

// told is an answer as a text.
func told(err error, texts ...string) string {
	if err != nil {
		texts = append(texts, err.Error())
	}
	return strings.Join(texts, "|")
}
