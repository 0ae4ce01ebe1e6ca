package proc

import "troupe/api"

// frame is a function that is under way.
type frame struct {
	code  []api.Ins
	at    int // the next instruction
	slots []uint64
	tries []int // their labels, the innermost one's at the end
}

// top is the innermost frame.
func (p *Proc) top() *frame { return &p.frames[len(p.frames)-1] }

// enter adds a frame.
func (p *Proc) enter(f int) {
	p.frames = append(p.frames, frame{code: p.funcs[f].Code, slots: nils(p.funcs[f].Slots)})
}

// drop takes the innermost frame away.
func (p *Proc) drop() { p.frames = p.frames[:len(p.frames)-1] }

// goTo makes an instruction the next one.
func (p *Proc) goTo(label int) { p.top().at = label }

// unless goes to a label unless something is so.
func (p *Proc) unless(is bool, label int) {
	if !is {
		p.goTo(label)
	}
}

func (p *Proc) jump(ins api.Ins) error {
	p.goTo(ins.A)
	return nil
}

func (p *Proc) call(ins api.Ins) error {
	if len(p.frames) == api.Frames {
		return tooMany
	}
	p.enter(ins.A)
	return nil
}

func (p *Proc) last(ins api.Ins) error {
	p.drop()
	p.enter(ins.A)
	return nil
}

func (p *Proc) ret(api.Ins) error {
	p.drop()
	if len(p.frames) == 0 {
		p.finish(api.Term{Kind: api.Atom, Name: "normal"})
	}
	return nil
}

func (p *Proc) try(ins api.Ins) error {
	f := p.top()
	f.tries = append(f.tries, ins.A)
	return nil
}

func (p *Proc) leave(api.Ins) error {
	f := p.top()
	f.tries = f.tries[:len(f.tries)-1]
	return nil
}

func (p *Proc) raises(ins api.Ins) error {
	w, err := p.source(ins.A)
	if err != nil {
		return err
	}
	return p.raise(w)
}

func (p *Proc) exit(ins api.Ins) error {
	w, err := p.source(ins.A)
	if err != nil {
		return err
	}
	return p.end(w)
}

// raiseAtom raises an atom.
func (p *Proc) raiseAtom(name string) error {
	w, err := p.Store(api.Term{Kind: api.Atom, Name: name})
	if err != nil {
		return err
	}
	return p.raise(w)
}

// raise goes on at the innermost try there is; without one the process ends.
func (p *Proc) raise(w uint64) error {
	left := len(p.frames)
search:
	for ; ; left-- {
		switch {
		case left == 0:
			return p.end(w)
		case len(p.frames[left-1].tries) > 0:
			break search
		}
	}
	p.frames = p.frames[:left]
	f := p.top()
	last := len(f.tries) - 1
	f.at, f.tries = f.tries[last], f.tries[:last]
	p.registers[0] = w
	return nil
}

// end ends the process with what a word tells.
func (p *Proc) end(w uint64) error {
	t, err := p.Load(w)
	if err == nil {
		p.finish(t)
	}
	return err
}

// finish ends the process.
func (p *Proc) finish(reason api.Term) {
	p.state = ended
	p.stop = api.Stop{Kind: api.Ends, Terms: []api.Term{reason}}
}
