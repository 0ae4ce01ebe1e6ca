package proc

import (
	"troupe/api"
	"troupe/bif"
	"troupe/tree"
)

// anyList is the kind, behind those of terms, of Nil and List.
const anyList = 9

func (p *Proc) move(ins api.Ins) error {
	w, err := p.source(ins.B)
	if err == nil {
		*p.place(ins.A) = w
	}
	return err
}

func (p *Proc) tuple(ins api.Ins) error {
	return p.lay(ins.A, aTuple, p.registers[ins.B:ins.B+ins.C]...)
}

func (p *Proc) cons(ins api.Ins) error {
	words, err := p.sources(ins.B, ins.C)
	if err != nil {
		return err
	}
	return p.lay(ins.A, aPair, words...)
}

func (p *Proc) ifEq(ins api.Ins) error {
	return p.compare(ins, func(c int) bool { return c == 0 })
}

func (p *Proc) ifLt(ins api.Ins) error {
	return p.compare(ins, func(c int) bool { return c < 0 })
}

// compare goes to a label unless two sources compare so. (Both are told as terms, also where less would do, so that what may not be told is always found out.)
func (p *Proc) compare(ins api.Ins, so func(c int) bool) error {
	words, err := p.sources(ins.A, ins.B)
	if err != nil {
		return err
	}
	terms, err := p.terms(words...)
	if err != nil {
		return err
	}
	p.unless(so(tree.Compare(terms[0], terms[1])), ins.C)
	return nil
}

func (p *Proc) ifKind(ins api.Ins) error {
	w, err := p.source(ins.A)
	if err != nil {
		return err
	}
	kind := p.kind(w)
	list := kind == api.Nil || kind == api.List
	p.unless(kind == ins.B || list && ins.B == anyList, ins.C)
	return nil
}

func (p *Proc) ifTuple(ins api.Ins) error {
	w, err := p.source(ins.A)
	if err != nil {
		return err
	}
	b, kind := p.block(w)
	words, _ := p.Len(b)
	p.unless(kind == api.Tuple && words == 1+ins.B, ins.C)
	return nil
}

func (p *Proc) elem(ins api.Ins) error { return p.part(ins, api.Tuple, 1+ins.C) }

func (p *Proc) head(ins api.Ins) error { return p.part(ins, api.List, 1) }

func (p *Proc) tail(ins api.Ins) error { return p.part(ins, api.List, 2) }

// part puts word i of a source's block, which must be of a kind, in a place.
func (p *Proc) part(ins api.Ins, kind, i int) error {
	w, err := p.source(ins.B)
	if err != nil {
		return err
	}
	b, is := p.block(w)
	part, err := p.Get(b, i)
	if is != kind || err != nil {
		return badarg
	}
	*p.place(ins.A) = part
	return nil
}

func (p *Proc) bif(ins api.Ins) error {
	_, n, _ := bif.Name(ins.A)
	args, err := p.terms(p.registers[ins.C : ins.C+n]...)
	if err != nil {
		return err
	}
	t, reason, err := bif.Do(ins.A, args...)
	if err != nil {
		return err
	}
	if reason != "" {
		return wrong(reason)
	}
	return p.put(ins.B, t)
}
