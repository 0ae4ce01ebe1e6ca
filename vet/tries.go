package vet

import (
	"container/heap"

	"troupe/api"
)

const (
	unreached = -1
	mostTries = 8
)

// walk goes through the instructions of a function, which are right by their operands, wherever they go.
type walk struct {
	code  []api.Ins
	tries []int  // of each instruction, as far as it is found
	next  places // that are reached, and were not gone on from
}

// walked are the tries of each instruction; or a slip, where a walk goes wrong.
func walked(code []api.Ins) ([]int, error) {
	w := walk{code: code, tries: make([]int, len(code)), next: places{0}}
	for i := range w.tries[1:] {
		w.tries[1+i] = unreached
	}
	for w.next.Len() > 0 {
		at := heap.Pop(&w.next).(int)
		if err := w.from(at); err != nil {
			return nil, slip{at, err}
		}
	}
	return w.tries, nil
}

// from goes on from an instruction that is reached.
func (w *walk) from(at int) error {
	ins, tries := w.code[at], w.tries[at]
	behind := tries
	switch ins.Op {
	case api.OpRet, api.OpLast:
		if tries > 0 {
			return api.ErrStack
		}
		fallthrough
	case api.OpRaise, api.OpExit:
		return nil
	case api.OpTry:
		behind++
		fallthrough
	case api.OpIfEq, api.OpIfLt, api.OpIfKind, api.OpIfTuple, api.OpPeek, api.OpAfter:
		if err := w.reach(at+1, behind); err != nil {
			return err
		}
		fallthrough
	case api.OpJump, api.OpNext, api.OpWait:
		return w.reach(goal(ins), tries)
	case api.OpEnd:
		if tries == 0 {
			return api.ErrStack
		}
		behind--
	}
	return w.reach(at+1, behind)
}

// goal is the label of an instruction that has one.
func goal(ins api.Ins) int {
	switch ins.Op {
	case api.OpIfEq, api.OpIfLt, api.OpIfKind, api.OpIfTuple:
		return ins.C
	case api.OpPeek:
		return ins.B
	}
	return ins.A
}

// reach comes to an instruction with so many tries.
func (w *walk) reach(at, tries int) error {
	if at == len(w.code) {
		return api.ErrJump
	}
	if tries > mostTries {
		return api.ErrStack
	}
	switch w.tries[at] {
	case tries:
	case unreached:
		w.tries[at] = tries
		heap.Push(&w.next, at)
	default:
		return api.ErrStack
	}
	return nil
}

// places are a heap of places, whose first one is the least.
type places []int

func (p places) Len() int { return len(p) }

func (p places) Less(i, j int) bool { return p[i] < p[j] }

func (p places) Swap(i, j int) { p[i], p[j] = p[j], p[i] }

// Push puts a place behind the others, as package heap asks.
func (p *places) Push(at any) { *p = append(*p, at.(int)) }

// Pop takes the last place, as package heap asks.
func (p *places) Pop() any {
	last := len(*p) - 1
	at := (*p)[last]
	*p = (*p)[:last]
	return at
}
