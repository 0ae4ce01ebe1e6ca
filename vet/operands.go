package vet

import (
	"troupe/api"
	"troupe/bif"
)

// What an operand is.
const (
	none    = iota // it is 0
	place          // a register, or a slot
	source         // a place, or a literal
	first          // the first one of some registers
	label          // an instruction of the function
	builtin        // a function of bif
	callee         // a function of the module
	kind           // of a term
	count          // of a tuple's items, that are made of registers
	size           // of a tuple, or a place in it
)

const (
	firstSlot    = api.Regs // the operand that is slot 0
	firstLiteral = 64
	mostKind     = 9 // behind the kinds of terms: Nil or List
	mostSize     = 1 << 16
)

// shapes are what the operands of each Op are. (There is no Op 0.)
func shapes() [api.OpPrio + 1][3]int {
	return [api.OpPrio + 1][3]int{
		api.OpMove:    {place, source},
		api.OpTuple:   {place, first, count},
		api.OpCons:    {place, source, source},
		api.OpJump:    {label},
		api.OpIfEq:    {source, source, label},
		api.OpIfLt:    {source, source, label},
		api.OpIfKind:  {source, kind, label},
		api.OpIfTuple: {source, size, label},
		api.OpElem:    {place, source, size},
		api.OpHead:    {place, source},
		api.OpTail:    {place, source},
		api.OpBif:     {builtin, place, first},
		api.OpCall:    {callee},
		api.OpLast:    {callee},
		api.OpRet:     {},
		api.OpSpawn:   {place, callee, first},
		api.OpSend:    {source, source},
		api.OpPeek:    {place, label},
		api.OpTake:    {},
		api.OpNext:    {label},
		api.OpWait:    {label},
		api.OpAfter:   {label, source},
		api.OpSelf:    {place},
		api.OpTry:     {label},
		api.OpEnd:     {},
		api.OpRaise:   {source},
		api.OpExit:    {source},
		api.OpLink:    {source},
		api.OpUnlink:  {source},
		api.OpMonitor: {place, source},
		api.OpDemon:   {source},
		api.OpTrap:    {source},
		api.OpKill:    {source, source},
		api.OpReg:     {source},
		api.OpWhere:   {place, source},
		api.OpUnreg:   {source},
		api.OpTimer:   {place, first},
		api.OpCancel:  {place, source},
		api.OpOut:     {source},
		api.OpYield:   {},
		api.OpPrio:    {source},
	}
}

// reader reads the instructions of a function.
type reader struct {
	m      api.Module
	f      api.Func
	shapes [api.OpPrio + 1][3]int
}

// instruction tells what is wrong with an instruction's Op and operands.
func (r *reader) instruction(ins api.Ins) error {
	if !within(ins.Op, api.OpMove, api.OpPrio) {
		return api.ErrArg
	}
	for i, n := range [3]int{ins.A, ins.B, ins.C} {
		if err := r.operand(r.shapes[ins.Op][i], n); err != nil {
			return err
		}
	}
	if x, used := r.registers(ins); used > api.Regs-x {
		return api.ErrIndex
	}
	return nil
}

// operand tells what is wrong with an operand that is to be such a thing.
func (r *reader) operand(what, n int) error {
	switch what {
	case source:
		if n >= firstLiteral {
			return wants(n, firstLiteral, firstLiteral+len(r.m.Lits)-1, api.ErrIndex)
		}
		fallthrough
	case place:
		if n >= firstSlot {
			return wants(n, firstSlot, firstSlot+r.f.Slots-1, api.ErrIndex)
		}
		fallthrough
	case first:
		return wants(n, 0, api.Regs-1, api.ErrIndex)
	case callee:
		return wants(n, 0, len(r.m.Funcs)-1, api.ErrIndex)
	case builtin:
		if _, _, ok := bif.Name(n); !ok {
			return api.ErrIndex
		}
		return nil
	case label:
		return wants(n, 0, len(r.f.Code)-1, api.ErrJump)
	case kind:
		return wants(n, api.Int, mostKind, api.ErrArg)
	case count:
		return wants(n, 0, api.Regs, api.ErrArg)
	case size:
		return wants(n, 0, mostSize, api.ErrArg)
	}
	return wants(n, 0, 0, api.ErrArg) // none
}

// wants tells, by an error of this kind, that a number is out of its range.
func wants(n, least, most int, err api.Errno) error {
	if within(n, least, most) {
		return nil
	}
	return err
}

// registers are the first register, and how many of them, that an instruction uses whose operands are right one by one. (What a function's Args are may be said wrongly, as it may stand behind.)
func (r *reader) registers(ins api.Ins) (x, used int) {
	switch ins.Op {
	case api.OpTuple:
		return ins.B, ins.C
	case api.OpBif:
		_, args, _ := bif.Name(ins.A)
		return ins.C, args
	case api.OpSpawn:
		return ins.C, r.m.Funcs[ins.B].Args
	case api.OpTimer:
		return ins.B, 3
	}
	return 0, 0
}
