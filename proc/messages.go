package proc

import (
	"errors"

	"troupe/api"
	"troupe/copy"
	"troupe/fault"
	"troupe/heap"
	"troupe/tree"
)

// mostTicks is how long a process may ask to wait.
const mostTicks = 1 << 30

// Deliver brings it a message.
func (p *Proc) Deliver(t api.Term) (woken bool, err error) {
	if err := tree.Right(t); err != nil {
		return false, fault.At("deliver", 0, err)
	}
	return p.receive(func() (uint64, error) { return p.Store(t) })
}

// Bring brings it what lies on another heap.
func (p *Proc) Bring(h *heap.Heap, w uint64) (woken bool, err error) {
	slot := h.Hold(w) // if h is its own heap, what is brought must outlive a collection
	defer h.Let(slot)
	return p.receive(func() (uint64, error) {
		if _, err := h.Load(w); err != nil {
			return 0, err
		}
		return copy.Copy(p.memory, h, w)
	})
}

// receive adds a message, once it is laid, and wakes a process that waits.
func (p *Proc) receive(lay func() (uint64, error)) (woken bool, err error) {
	if p.state == ended {
		return false, fault.At("deliver", 0, api.ErrNone)
	}
	var w uint64
	err = p.twice(func() (err error) {
		w, err = lay()
		return err
	})
	switch {
	case errors.Is(err, api.ErrFull):
		return false, fault.At("deliver", 0, api.ErrFull)
	case err != nil: // there is no term to be brought
		return false, fault.At("deliver", 0, api.ErrNone)
	}
	p.box.Push(w)
	woken = p.Waiting()
	if woken {
		p.state = runs
	}
	return woken, nil
}

// Timeout tells it that the time is up.
func (p *Proc) Timeout() bool {
	if p.state != waits || p.waitsBy != timed {
		return false
	}
	p.state = runs
	p.clock = false
	p.box.First()
	p.goTo(p.late)
	return true
}

func (p *Proc) peek(ins api.Ins) error {
	w, there := p.box.Peek()
	if there {
		*p.place(ins.A) = w
	}
	p.unless(there, ins.B)
	return nil
}

func (p *Proc) take(api.Ins) error {
	p.box.Take()
	p.box.First()
	p.clock = false
	return nil
}

func (p *Proc) next(ins api.Ins) error {
	p.box.Next()
	p.goTo(ins.A)
	return nil
}

func (p *Proc) wait(ins api.Ins) error {
	p.halt(ins.A, untimed, untimed)
	return nil
}

func (p *Proc) after(ins api.Ins) error {
	w, err := p.source(ins.B)
	if err != nil {
		return err
	}
	ticks, ok := p.number(w, mostTicks)
	forever := p.isAtom(w, "infinity")
	if !ok && !forever {
		return badarg
	}
	_, there := p.box.Peek()
	switch {
	case there, forever:
		p.halt(ins.A, untimed, untimed)
	case p.clock:
		p.halt(ins.A, timed, timed)
	case ticks == 0:
		p.box.First()
	default:
		p.clock = true
		p.halt(ins.A, timed, ticks)
	}
	return nil
}

// halt goes to a label, and waits there if no message is at the place. What it tells then is N.
func (p *Proc) halt(label, by, n int) {
	p.late = p.top().at
	p.goTo(label)
	if _, there := p.box.Peek(); there {
		return
	}
	p.state, p.waitsBy = waits, by
	p.stop = api.Stop{Kind: api.Waits, N: n}
}
