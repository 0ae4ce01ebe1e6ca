package proc_test

import (
	"slices"

	"troupe/api"
	"troupe/bif"
	"troupe/tree"
)

// model does what the chapter's words say over terms, without a heap: its memory never ends.
type model struct {
	module  api.Module
	regs    []api.Term
	levels  []level // the innermost one at the end
	mail    []api.Term
	place   int
	clock   bool
	over    bool
	waits   bool
	by      int        // what a Run says of one that waits
	label   int        // where it goes when it is woken
	late    int        // where it goes when the time is up
	reason  []api.Term // of an end that is still to be told
	stopped int        // the kind of the stop that it is behind
	answer  int        // the place that is answered
	sent    []api.Term // one at most
	laid    map[int]bool
}

// level is a frame.
type level struct {
	f, at int
	slots []api.Term
	tries []int
}

func null() api.Term { return api.Term{Kind: api.Nil} }

func atom(name string) api.Term { return api.Term{Kind: api.Atom, Name: name} }

// newModel is to run the first function.
func newModel(m api.Module, args []api.Term) *model {
	x := &model{module: m, regs: slices.Repeat([]api.Term{null()}, api.Regs), laid: map[int]bool{}}
	copy(x.regs, args)
	x.levels = []level{x.level(0)}
	return x
}

func (m *model) level(f int) level {
	return level{f: f, slots: slices.Repeat([]api.Term{null()}, m.module.Funcs[f].Slots)}
}

func (m *model) top() *level { return &m.levels[len(m.levels)-1] }

func (m *model) get(operand int) api.Term {
	switch {
	case operand >= 64:
		m.laid[operand-64] = true
		return m.module.Lits[operand-64]
	case operand >= 16:
		return m.top().slots[operand-16]
	}
	return m.regs[operand]
}

func (m *model) set(operand int, t api.Term) {
	if operand >= 16 {
		m.top().slots[operand-16] = t
		return
	}
	m.regs[operand] = t
}

// instruction is the one that is next.
func (m *model) instruction() api.Ins {
	l := m.top()
	return m.module.Funcs[l.f].Code[l.at]
}

// run is Run.
func (m *model) run(budget int) (api.Stop, int) {
	switch m.stopped {
	case api.Spawns, api.Monitors, api.Asks, api.Starts, api.Cancels:
		m.set(m.answer, null())
	}
	m.stopped, m.sent = 0, nil
	if m.over {
		reason := m.reason
		m.reason = nil
		return api.Stop{Kind: api.Ends, Terms: reason}, 0
	}
	if m.waits {
		return api.Stop{Kind: api.Waits, N: m.by}, 0
	}
	for used := 0; used < budget; used++ {
		if stop := m.step(); stop.Kind != 0 {
			return stop, used + 1
		}
	}
	return api.Stop{Kind: api.Spent}, max(budget, 0)
}

// tooGreat tells whether one of some terms can not be told.
func tooGreat(terms ...api.Term) bool {
	return slices.ContainsFunc(terms, func(t api.Term) bool { return tree.Right(t) != nil })
}

// full is what becomes of it then.
func (m *model) full() api.Stop {
	m.over = true
	return api.Stop{Kind: api.Full}
}

// ends is what becomes of it when it ends.
func (m *model) ends(reason api.Term) api.Stop {
	if tooGreat(reason) {
		return m.full()
	}
	m.over = true
	return api.Stop{Kind: api.Ends, Terms: []api.Term{reason}}
}

// raise raises a term.
func (m *model) raise(t api.Term) api.Stop {
	for n := len(m.levels) - 1; n >= 0; n-- {
		l := &m.levels[n]
		if last := len(l.tries) - 1; last >= 0 {
			l.at = l.tries[last]
			l.tries = l.tries[:last]
			m.levels = m.levels[:n+1]
			m.regs[0] = t
			return api.Stop{}
		}
	}
	return m.ends(t)
}

// asks stops with what the process wants.
func (m *model) asks(kind, n, answer int, terms ...api.Term) api.Stop {
	if tooGreat(terms...) {
		return m.full()
	}
	m.stopped, m.answer = kind, answer
	if kind == api.Sends || kind == api.Starts {
		m.sent = terms[1:]
	}
	return api.Stop{Kind: kind, N: n, Terms: terms}
}

// there tells whether there is a message at the place.
func (m *model) there() bool { return m.place < len(m.mail) }

// pair is the pair of two terms.
func pair(a, b api.Term) api.Term {
	switch b.Kind {
	case api.Nil:
		return api.Term{Kind: api.List, Items: []api.Term{a}}
	case api.List:
		return api.Term{Kind: api.List, Items: append([]api.Term{a}, b.Items...), Rest: b.Rest}
	}
	return api.Term{Kind: api.List, Items: []api.Term{a}, Rest: []api.Term{b}}
}

// behind is what follows the first item.
func behind(t api.Term) api.Term {
	switch {
	case len(t.Items) > 1:
		return api.Term{Kind: api.List, Items: t.Items[1:], Rest: t.Rest}
	case len(t.Rest) > 0:
		return t.Rest[0]
	}
	return null()
}

// ticks tells whether a term is a number of ticks.
func ticks(t api.Term) bool { return t.Kind == api.Int && t.N >= 0 && t.N <= 1<<30 }

// address tells whether a term may be sent to.
func address(t api.Term) bool { return t.Kind == api.Pid || t.Kind == api.Atom }

// step does an instruction; a stop without a kind is none.
func (m *model) step() api.Stop {
	ins := m.instruction()
	m.top().at++
	none := api.Stop{}
	switch ins.Op {
	case api.OpMove:
		m.set(ins.A, m.get(ins.B))
	case api.OpTuple:
		m.set(ins.A, api.Term{Kind: api.Tuple, Items: slices.Clone(m.regs[ins.B : ins.B+ins.C])})
	case api.OpCons:
		m.set(ins.A, pair(m.get(ins.B), m.get(ins.C)))
	case api.OpJump:
		m.top().at = ins.A
	case api.OpIfEq, api.OpIfLt, api.OpIfKind, api.OpIfTuple:
		return m.branch(ins)
	case api.OpElem, api.OpHead, api.OpTail, api.OpBif:
		return m.made(ins)
	case api.OpCall:
		if len(m.levels) == api.Frames {
			return m.raise(atom("system_limit"))
		}
		m.levels = append(m.levels, m.level(ins.A))
	case api.OpLast:
		*m.top() = m.level(ins.A)
	case api.OpRet:
		m.levels = m.levels[:len(m.levels)-1]
		if len(m.levels) == 0 {
			return m.ends(atom("normal"))
		}
	case api.OpTry:
		m.top().tries = append(m.top().tries, ins.A)
	case api.OpEnd:
		m.top().tries = m.top().tries[:len(m.top().tries)-1]
	case api.OpRaise:
		return m.raise(m.get(ins.A))
	case api.OpExit:
		return m.ends(m.get(ins.A))
	case api.OpSelf:
		m.set(ins.A, api.Term{Kind: api.Pid, N: 5})
	case api.OpPeek, api.OpTake, api.OpNext, api.OpWait, api.OpAfter:
		return m.messages(ins)
	default:
		return m.wishes(ins)
	}
	return none
}

// made does an instruction that puts something in a place, or goes wrong.
func (m *model) made(ins api.Ins) api.Stop {
	badarg := atom("badarg")
	switch ins.Op {
	case api.OpElem:
		t := m.get(ins.B)
		if t.Kind != api.Tuple || ins.C >= len(t.Items) {
			return m.raise(badarg)
		}
		m.set(ins.A, t.Items[ins.C])
	case api.OpHead, api.OpTail:
		t := m.get(ins.B)
		if t.Kind != api.List {
			return m.raise(badarg)
		}
		if ins.Op == api.OpHead {
			m.set(ins.A, t.Items[0])
			return api.Stop{}
		}
		m.set(ins.A, behind(t))
	case api.OpBif:
		_, n, _ := bif.Name(ins.A)
		args := m.regs[ins.C : ins.C+n]
		if tooGreat(args...) {
			return m.full()
		}
		t, reason, err := bif.Do(ins.A, args...)
		if err != nil {
			return m.full()
		}
		if reason != "" {
			return m.raise(atom(reason))
		}
		m.set(ins.B, t)
	}
	return api.Stop{}
}

// branch does an instruction that goes on, or to a label.
func (m *model) branch(ins api.Ins) api.Stop {
	a := m.get(ins.A)
	var holds bool
	switch ins.Op {
	case api.OpIfKind:
		holds = a.Kind == ins.B || ins.B == 9 && (a.Kind == api.Nil || a.Kind == api.List)
	case api.OpIfTuple:
		holds = a.Kind == api.Tuple && len(a.Items) == ins.B
	default:
		b := m.get(ins.B)
		if tooGreat(a, b) {
			return m.full()
		}
		c := tree.Compare(a, b)
		holds = ins.Op == api.OpIfEq && c == 0 || ins.Op == api.OpIfLt && c < 0
	}
	if !holds {
		m.top().at = ins.C
	}
	return api.Stop{}
}

// messages does an instruction about messages.
func (m *model) messages(ins api.Ins) api.Stop {
	there := m.there()
	switch ins.Op {
	case api.OpPeek:
		if !there {
			m.top().at = ins.B
			return api.Stop{}
		}
		m.set(ins.A, m.mail[m.place])
	case api.OpTake:
		if there {
			m.mail = slices.Delete(slices.Clone(m.mail), m.place, m.place+1)
		}
		m.place, m.clock = 0, false
	case api.OpNext:
		if there {
			m.place++
		}
		m.top().at = ins.A
	case api.OpWait:
		return m.wait(ins.A, -1, -1)
	case api.OpAfter:
		b := m.get(ins.B)
		forever := b.Kind == api.Atom && b.Name == "infinity"
		switch {
		case !forever && !ticks(b):
			return m.raise(atom("badarg"))
		case forever || there:
			return m.wait(ins.A, -1, -1)
		case m.clock:
			return m.wait(ins.A, -2, -2)
		case b.N == 0:
			m.place = 0
		default:
			m.clock = true
			return m.wait(ins.A, -2, int(b.N))
		}
	}
	return api.Stop{}
}

// wait waits, or goes on at a label.
func (m *model) wait(label, by, n int) api.Stop {
	m.late = m.top().at
	if m.there() {
		m.top().at = label
		return api.Stop{}
	}
	m.waits, m.by, m.label = true, by, label
	return api.Stop{Kind: api.Waits, N: n}
}

// wishes does an instruction that a process can't do alone.
func (m *model) wishes(ins api.Ins) api.Stop {
	oneOf := func(kind, stop, operand, answer int) api.Stop {
		t := m.get(operand)
		if t.Kind != kind {
			return m.raise(atom("badarg"))
		}
		return m.asks(stop, 0, answer, t)
	}
	switch ins.Op {
	case api.OpSpawn:
		return m.asks(api.Spawns, ins.B, ins.A, slices.Clone(m.regs[ins.C:ins.C+m.module.Funcs[ins.B].Args])...)
	case api.OpLink:
		return oneOf(api.Pid, api.Links, ins.A, 0)
	case api.OpUnlink:
		return oneOf(api.Pid, api.Unlinks, ins.A, 0)
	case api.OpMonitor:
		return oneOf(api.Pid, api.Monitors, ins.B, ins.A)
	case api.OpDemon:
		return oneOf(api.Ref, api.Demons, ins.A, 0)
	case api.OpReg:
		return oneOf(api.Atom, api.Registers, ins.A, 0)
	case api.OpWhere:
		return oneOf(api.Atom, api.Asks, ins.B, ins.A)
	case api.OpUnreg:
		return oneOf(api.Atom, api.Unregs, ins.A, 0)
	case api.OpCancel:
		return oneOf(api.Ref, api.Cancels, ins.B, ins.A)
	case api.OpOut:
		return m.asks(api.Outs, 0, 0, m.get(ins.A))
	case api.OpYield:
		return m.asks(api.Yields, 0, 0)
	case api.OpSend, api.OpKill:
		a, b := m.get(ins.A), m.get(ins.B)
		if a.Kind == api.Pid && ins.Op == api.OpKill {
			return m.asks(api.Kills, 0, 0, a, b)
		}
		if address(a) && ins.Op == api.OpSend {
			return m.asks(api.Sends, 0, 0, a, b)
		}
	case api.OpTimer:
		n, to, what := m.regs[ins.B], m.regs[ins.B+1], m.regs[ins.B+2]
		if ticks(n) && address(to) {
			return m.asks(api.Starts, int(n.N), ins.A, to, what)
		}
	case api.OpTrap:
		t := m.get(ins.A)
		for n, name := range []string{"false", "true"} {
			if t.Kind == api.Atom && t.Name == name {
				return m.asks(api.Traps, n, 0)
			}
		}
	case api.OpPrio:
		if t := m.get(ins.A); t.Kind == api.Int && t.N >= 0 && t.N <= 2 {
			return m.asks(api.Prios, int(t.N), 0)
		}
	}
	return m.raise(atom("badarg"))
}

// answers is Answer; false, if it does nothing.
func (m *model) answers(t api.Term) bool {
	switch m.stopped {
	case api.Spawns, api.Monitors, api.Asks, api.Starts, api.Cancels:
		if !tooGreat(t) {
			m.set(m.answer, t)
			m.stopped, m.sent = 0, nil
			return true
		}
	}
	return false
}

// fails is Fail.
func (m *model) fails(reason string) {
	if m.stopped == 0 || reason == "" || len(reason) > 255 {
		return
	}
	m.stopped, m.sent = 0, nil
	m.reason = m.raise(atom(reason)).Terms
}

// gets is Deliver, or Bring, of a term that may be; whether it is woken, and whether it is taken.
func (m *model) gets(t api.Term) (woken, taken bool) {
	if m.over {
		return false, false
	}
	m.mail = append(slices.Clone(m.mail), t)
	woken = m.waits
	if woken {
		m.waits = false
		m.top().at = m.label
	}
	return woken, true
}

// times is Timeout.
func (m *model) times() bool {
	if !m.waits || m.by != -2 {
		return false
	}
	m.waits, m.clock, m.place = false, false, 0
	m.top().at = m.late
	return true
}
