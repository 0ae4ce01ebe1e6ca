package proc

import (
	"slices"

	"troupe/api"
	"troupe/fault"
	"troupe/tree"
)

// wish is what a process stopped for, as it can't do it alone. The zero wish is none.
type wish struct {
	kind  int    // of the stop
	place int    // of the answer, if it wants one
	sent  uint64 // if it sends
}

// wantsAnswer tells whether a wish wants an answer.
func (w wish) wantsAnswer() bool {
	switch w.kind {
	case api.Spawns, api.Monitors, api.Asks, api.Starts, api.Cancels:
		return true
	}
	return false
}

// Answer answers what it asked for.
func (p *Proc) Answer(t api.Term) error {
	err := tree.Right(t)
	if err == nil {
		err = p.answer(t)
	}
	return fault.At("answer", 0, err)
}

// answer answers with a term that may be.
func (p *Proc) answer(t api.Term) error {
	if !p.wish.wantsAnswer() {
		return api.ErrNone
	}
	if p.twice(func() error { return p.put(p.wish.place, t) }) != nil {
		p.fill()
		return api.ErrFull
	}
	p.wish = wish{}
	return nil
}

// Fail raises a reason where it stopped.
func (p *Proc) Fail(reason string) {
	if p.wish.kind == 0 || tree.Right(api.Term{Kind: api.Atom, Name: reason}) != nil {
		return
	}
	p.wish = wish{}
	if p.twice(func() error { return p.raiseAtom(reason) }) != nil {
		p.fill()
	}
}

// Sent is the word of what is sent.
func (p *Proc) Sent() uint64 { return p.wish.sent }

// ask stops for a wish, which is told by a number and by words. Of what sends, the last one is sent.
func (p *Proc) ask(w wish, n int, words ...uint64) error {
	terms, err := p.terms(words...)
	if err != nil {
		return err
	}
	switch w.kind {
	case api.Sends, api.Starts:
		w.sent = words[len(words)-1]
	}
	p.wish = w
	p.stop = api.Stop{Kind: w.kind, N: n, Terms: terms}
	return nil
}

// askOf stops for what is to be done with sources, the first one of which must be of one of these kinds.
func (p *Proc) askOf(operands []int, w wish, kinds ...int) error {
	words, err := p.sources(operands...)
	if err != nil {
		return err
	}
	if !slices.Contains(kinds, p.kind(words[0])) {
		return badarg
	}
	return p.ask(w, 0, words...)
}

// number is a word's number, if that is from 0 to most.
func (p *Proc) number(w uint64, most int) (int, bool) {
	t := p.plain(w)
	if t.Kind != api.Int || t.N < 0 || t.N > int64(most) {
		return 0, false
	}
	return int(t.N), true
}

// isAtom tells whether a word is an atom's of that name.
func (p *Proc) isAtom(w uint64, name string) bool {
	t := p.plain(w)
	return t.Kind == api.Atom && t.Name == name
}

func (p *Proc) self(ins api.Ins) error {
	return p.put(ins.A, api.Term{Kind: api.Pid, N: p.pid})
}

func (p *Proc) spawn(ins api.Ins) error {
	args := p.registers[ins.C : ins.C+p.funcs[ins.B].Args]
	return p.ask(wish{kind: api.Spawns, place: ins.A}, ins.B, args...)
}

func (p *Proc) send(ins api.Ins) error {
	return p.askOf([]int{ins.A, ins.B}, wish{kind: api.Sends}, api.Pid, api.Atom)
}

func (p *Proc) kill(ins api.Ins) error {
	return p.askOf([]int{ins.A, ins.B}, wish{kind: api.Kills}, api.Pid)
}

func (p *Proc) link(ins api.Ins) error {
	return p.askOf([]int{ins.A}, wish{kind: api.Links}, api.Pid)
}

func (p *Proc) unlink(ins api.Ins) error {
	return p.askOf([]int{ins.A}, wish{kind: api.Unlinks}, api.Pid)
}

func (p *Proc) monitor(ins api.Ins) error {
	return p.askOf([]int{ins.B}, wish{kind: api.Monitors, place: ins.A}, api.Pid)
}

func (p *Proc) demon(ins api.Ins) error {
	return p.askOf([]int{ins.A}, wish{kind: api.Demons}, api.Ref)
}

func (p *Proc) cancel(ins api.Ins) error {
	return p.askOf([]int{ins.B}, wish{kind: api.Cancels, place: ins.A}, api.Ref)
}

func (p *Proc) register(ins api.Ins) error {
	return p.askOf([]int{ins.A}, wish{kind: api.Registers}, api.Atom)
}

func (p *Proc) unregister(ins api.Ins) error {
	return p.askOf([]int{ins.A}, wish{kind: api.Unregs}, api.Atom)
}

func (p *Proc) where(ins api.Ins) error {
	return p.askOf([]int{ins.B}, wish{kind: api.Asks, place: ins.A}, api.Atom)
}

func (p *Proc) timer(ins api.Ins) error {
	words := p.registers[ins.B : ins.B+3]
	ticks, ok := p.number(words[0], mostTicks)
	if !ok || !slices.Contains([]int{api.Pid, api.Atom}, p.kind(words[1])) {
		return badarg
	}
	return p.ask(wish{kind: api.Starts, place: ins.A}, ticks, words[1:]...)
}

func (p *Proc) out(ins api.Ins) error {
	w, err := p.source(ins.A)
	if err != nil {
		return err
	}
	return p.ask(wish{kind: api.Outs}, 0, w)
}

func (p *Proc) yield(api.Ins) error { return p.ask(wish{kind: api.Yields}, 0) }

func (p *Proc) trap(ins api.Ins) error {
	w, err := p.source(ins.A)
	switch {
	case err != nil:
		return err
	case p.isAtom(w, "true"):
		return p.ask(wish{kind: api.Traps}, 1)
	case p.isAtom(w, "false"):
		return p.ask(wish{kind: api.Traps}, 0)
	}
	return badarg
}

func (p *Proc) prio(ins api.Ins) error {
	w, err := p.source(ins.A)
	if err != nil {
		return err
	}
	n, ok := p.number(w, api.MaxPrio-1)
	if !ok {
		return badarg
	}
	return p.ask(wish{kind: api.Prios}, n)
}
