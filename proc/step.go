package proc

import (
	"errors"

	"troupe/api"
)

// doing does an instruction. With an error it has turned nothing, but that literals may be laid.
type doing func(api.Ins) error

// wrong is the name of the atom that an instruction raises.
type wrong string

func (w wrong) Error() string { return string(w) }

const (
	badarg  wrong = "badarg"
	tooMany wrong = "system_limit"
)

// doings are what each Op does.
func (p *Proc) doings() map[int]doing {
	return map[int]doing{
		api.OpMove:    p.move,
		api.OpTuple:   p.tuple,
		api.OpCons:    p.cons,
		api.OpJump:    p.jump,
		api.OpIfEq:    p.ifEq,
		api.OpIfLt:    p.ifLt,
		api.OpIfKind:  p.ifKind,
		api.OpIfTuple: p.ifTuple,
		api.OpElem:    p.elem,
		api.OpHead:    p.head,
		api.OpTail:    p.tail,
		api.OpBif:     p.bif,
		api.OpCall:    p.call,
		api.OpLast:    p.last,
		api.OpRet:     p.ret,
		api.OpSpawn:   p.spawn,
		api.OpSend:    p.send,
		api.OpPeek:    p.peek,
		api.OpTake:    p.take,
		api.OpNext:    p.next,
		api.OpWait:    p.wait,
		api.OpAfter:   p.after,
		api.OpSelf:    p.self,
		api.OpTry:     p.try,
		api.OpEnd:     p.leave,
		api.OpRaise:   p.raises,
		api.OpExit:    p.exit,
		api.OpLink:    p.link,
		api.OpUnlink:  p.unlink,
		api.OpMonitor: p.monitor,
		api.OpDemon:   p.demon,
		api.OpTrap:    p.trap,
		api.OpKill:    p.kill,
		api.OpReg:     p.register,
		api.OpWhere:   p.where,
		api.OpUnreg:   p.unregister,
		api.OpTimer:   p.timer,
		api.OpCancel:  p.cancel,
		api.OpOut:     p.out,
		api.OpYield:   p.yield,
		api.OpPrio:    p.prio,
	}
}

// step does the next instruction.
func (p *Proc) step() {
	if p.twice(p.attempt) != nil {
		p.fill()
		p.stop = api.Stop{Kind: api.Full}
	}
}

// attempt does the next instruction, or raises what it goes wrong with. With an error it is still the next one.
func (p *Proc) attempt() error {
	f := p.top()
	ins := f.code[f.at]
	f.at++
	err := p.does[ins.Op](ins)
	if err == nil {
		return nil
	}
	var reason wrong
	if errors.As(err, &reason) {
		err = p.raiseAtom(string(reason))
	}
	if err != nil {
		f.at-- // no frame came or went
	}
	return err
}

// twice tries something, and where it has no room once more behind a collection. (All that an instruction makes is tried once more then, which is the same: what is held is not collected, and one collection right behind another gives nothing back.)
func (p *Proc) twice(try func() error) error {
	err := try()
	if errors.Is(err, api.ErrFull) {
		p.Collect()
		err = try()
	}
	return err
}

// fill is what becomes of a process that wants more memory than there is.
func (p *Proc) fill() {
	p.state = ended
	p.wish = wish{}
}
