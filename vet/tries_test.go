package vet_test

import (
	"fmt"
	"slices"
	"testing"

	"troupe/api"
	"troupe/vet"
)

// P10.1 of tries, P10.2.

const never = -1

var raise = ins(api.OpRaise, 0)

// goes is where an Op goes: on, and to which operand, as the chapter's rules say (-1: it has no label).
func goes(op int) (on bool, label int) {
	switch rows[op][0] {
	case "jump", "next", "wait":
		return false, 0
	case "ret", "last", "raise", "exit":
		return false, -1
	case "ifeq", "iflt", "ifkind", "iftuple":
		return true, 2
	case "peek":
		return true, 1
	case "after", "try":
		return true, 0
	}
	return true, -1
}

// going is an instruction of an Op that is right, with this label, if it has one.
func going(op, to int) api.Ins {
	operands := plain(op)
	if _, label := goes(op); label >= 0 {
		operands[label] = to
	}
	return ins(op, operands[:]...)
}

// behind are the tries behind an instruction, and at its label, if so many are ahead of it.
func behind(op, tries int) (on, to int) {
	on, to = never, never
	further, label := goes(op)
	if further {
		on = tries
	}
	if op == api.OpTry {
		on++
	}
	if op == api.OpEnd {
		on--
	}
	if label >= 0 {
		to = tries
	}
	return on, to
}

func TestWhereTheLabelStands(t *testing.T) {
	for op := api.OpMove; op <= api.OpPrio; op++ {
		if _, label := goes(op); label != slices.Index(rows[op][1:], "label") {
			t.Errorf("%v: %d", rows[op], label)
		}
	}
}

// TestWhereEachOpGoes: on, to its label, both, or nowhere; and with how many tries.
func TestWhereEachOpGoes(t *testing.T) {
	for op := api.OpMove; op <= api.OpPrio; op++ {
		word := rows[op][0]
		on, to := behind(op, 0)
		if op == api.OpEnd {
			slips(t, word, []api.Ins{going(op, 0), ret}, 0, api.ErrStack)
		} else {
			hasTries(t, word, []api.Ins{going(op, 2), raise, raise}, 0, on, to)
		}
		within := []api.Ins{try(5), take, going(op, 4), raise, raise, raise}
		on, to = behind(op, 1)
		if op == api.OpRet || op == api.OpLast {
			slips(t, word+" within a try", within, 2, api.ErrStack)
		} else {
			hasTries(t, word+" within a try", within, 0, 1, 1, on, to, 0)
		}
	}
}

// TestTheLastInstruction: one that is reached does not go on.
func TestTheLastInstruction(t *testing.T) {
	for op := api.OpMove; op <= api.OpPrio; op++ {
		on, _ := goes(op)
		for n := range 3 {
			code := append([]api.Ins{try(0)}, append(takes(n), going(op, 1+n))...)
			reached := codes(code, []api.Ins{raise})
			switch {
			case op == api.OpRet || op == api.OpLast:
				slips(t, "within a try", code, 1+n, api.ErrStack)
			case op == api.OpTry:
				slips(t, "a try", code, 1+n, api.ErrJump)
				right(t, "a try that goes on", one(reached...))
			case on:
				slips(t, rows[op][0], code, 1+n, api.ErrJump)
				right(t, rows[op][0], one(reached...))
			default:
				right(t, rows[op][0], one(code...))
			}
			right(t, rows[op][0]+" that is never reached", one(ret, going(op, 0)))
		}
	}
	slips(t, "an end, but not its want", []api.Ins{end}, 0, api.ErrStack)
	slips(t, "an end that goes on", []api.Ins{try(0), end}, 1, api.ErrJump)
	slips(t, "only one", []api.Ins{take}, 0, api.ErrJump)
	slips(t, "a way to the last one", []api.Ins{jump(2), ret, take}, 2, api.ErrJump)
}

func TestTriesWithinTries(t *testing.T) {
	hasTries(t, "one", []api.Ins{try(2), end, ret}, 0, 1, 0)
	hasTries(t, "its label behind", []api.Ins{try(3), end, ret, ret}, 0, 1, 0, 0)
	hasTries(t, "its label is itself", []api.Ins{try(0), end, ret}, 0, 1, 0)
	slips(t, "its label is behind it, with another number", []api.Ins{try(1), raise}, 0, api.ErrStack)
	hasTries(t, "one behind another", []api.Ins{try(2), end, try(2), end, ret}, 0, 1, 0, 1, 0)
	hasTries(t, "one in another", []api.Ins{try(4), try(3), end, end, ret}, 0, 1, 2, 1, 0)
	hasTries(t, "a label within", []api.Ins{try(5), try(3), end, take, end, ret}, 0, 1, 2, 1, 1, 0)
	slips(t, "two labels of one place", []api.Ins{try(5), try(5), end, take, end, ret}, 1, api.ErrStack)
	slips(t, "an end too many", []api.Ins{try(0), end, end, ret}, 2, api.ErrStack)
	slips(t, "an end too few", []api.Ins{try(0), try(0), end, ret}, 1, api.ErrStack)
	slips(t, "ret wants 0", []api.Ins{try(1), try(1), end, ret}, 0, api.ErrStack)
	slips(t, "ret within", []api.Ins{try(0), ret}, 1, api.ErrStack)
	slips(t, "last within", []api.Ins{try(0), ins(api.OpLast, 0)}, 1, api.ErrStack)
	hasTries(t, "raise and exit want no number", []api.Ins{try(2), raise, ins(api.OpExit, 0)}, 0, 1, 0)
	hasTries(t, "a call within", []api.Ins{try(0), ins(api.OpCall, 0), end, ret}, 0, 1, 1, 0)
}

func TestEightTries(t *testing.T) {
	selves := func(n int) []api.Ins { // n tries, whose labels are they themselves
		var code []api.Ins
		for i := range n {
			code = append(code, try(i))
		}
		return code
	}
	ends := slices.Repeat([]api.Ins{end}, 9)
	hasTries(t, "eight", codes(selves(8), ends[:8], []api.Ins{ret}), 0, 1, 2, 3, 4, 5, 6, 7, 8, 7, 6, 5, 4, 3, 2, 1, 0)
	hasTries(t, "eight of which none ends", codes(selves(8), []api.Ins{raise}), 0, 1, 2, 3, 4, 5, 6, 7, 8)
	slips(t, "nine", codes(selves(9), ends[:9], []api.Ins{ret}), 8, api.ErrStack)
	slips(t, "nine of which none ends", codes(selves(9), []api.Ins{raise}), 8, api.ErrStack)
	slips(t, "the ninth goes on behind the last one", selves(9), 8, api.ErrJump)
	hasTries(t, "a ninth that is never reached", codes(selves(8), []api.Ins{raise}, selves(9)[8:]), 0, 1, 2, 3, 4, 5, 6, 7, 8, never)
	hasTries(t, "a ninth behind an end", codes(selves(8), []api.Ins{end, try(9), raise}), 0, 1, 2, 3, 4, 5, 6, 7, 8, 7, 8)
	at := codes(selves(8), []api.Ins{jump(10), raise, try(10), raise})
	slips(t, "a ninth further on", at, 10, api.ErrStack)
}

func TestTwoWaysToOneInstruction(t *testing.T) {
	hasTries(t, "one number", []api.Ins{ifeq(3), take, jump(3), ret}, 0, 0, 0, 0)
	slips(t, "the way on parts from the label", []api.Ins{ifeq(3), try(1), take, raise}, 2, api.ErrStack)
	slips(t, "the label parts from the way on", []api.Ins{ifeq(2), try(1), raise}, 1, api.ErrStack)
	slips(t, "a jump parts", []api.Ins{ifeq(3), try(1), jump(4), take, raise}, 3, api.ErrStack)
	slips(t, "back to the first", []api.Ins{try(0), jump(0)}, 1, api.ErrStack)
	slips(t, "less than ahead", []api.Ins{try(1), end, raise}, 0, api.ErrStack)
	for op := api.OpMove; op <= api.OpPrio; op++ {
		if _, label := goes(op); label >= 0 {
			slips(t, rows[op][0], []api.Ins{try(0), take, going(op, 0), raise}, 2, api.ErrStack)
			right(t, rows[op][0], one(try(0), take, going(op, 1), raise))
		}
	}
}

func TestLoops(t *testing.T) {
	hasTries(t, "to itself", []api.Ins{jump(0)}, 0)
	hasTries(t, "to the first", []api.Ins{take, jump(0)}, 0, 0)
	hasTries(t, "with a try that ends", []api.Ins{try(3), end, jump(0), ret}, 0, 1, 0, 0)
	hasTries(t, "within a try", []api.Ins{try(0), take, jump(1)}, 0, 1, 1)
	slips(t, "a try each time", []api.Ins{take, try(1), jump(0)}, 2, api.ErrStack)
	slips(t, "an end each time", []api.Ins{try(0), take, end, jump(1), ret}, 3, api.ErrStack)
	hasTries(t, "back and forth", []api.Ins{jump(4), ret, jump(1), jump(2), jump(3)}, 0, 0, 0, 0, 0)
	hasTries(t, "messages", []api.Ins{peek(4), take, ret, ret, after(0), ret}, 0, 0, 0, never, 0, 0)
}

// TestOrderOfPlaces: of all places that are reached and were not gone on from, the least is next.
func TestOrderOfPlaces(t *testing.T) {
	slips(t, "on ahead of the label", []api.Ins{ifeq(2), end, end, ret}, 1, api.ErrStack)
	slips(t, "the label ahead of what is on", []api.Ins{jump(3), end, ret, ifeq(1), end, ret}, 1, api.ErrStack)
	slips(t, "back ahead of what was reached first", []api.Ins{ifeq(3), jump(5), end, jump(2), ret, end, ret}, 2, api.ErrStack)
	slips(t, "on a long way ahead of the label", []api.Ins{ifeq(5), take, take, take, end, end, ret}, 4, api.ErrStack)
	slips(t, "a later number told at the later place", []api.Ins{ifeq(4), try(1), jump(5), ret, jump(5), raise}, 4, api.ErrStack)
	slips(t, "a want further back", []api.Ins{jump(3), take, ret, ifeq(5), raise, try(5), jump(1), end}, 2, api.ErrStack)
	slips(t, "one that slips is not gone on from", []api.Ins{ifeq(3), jump(2), end, take}, 2, api.ErrStack)
}

// TestSlipsOfOneInstruction: its want, then the way on, then the label.
func TestSlipsOfOneInstruction(t *testing.T) {
	slips(t, "on behind the last one, ahead of the label's number", []api.Ins{try(0), ifeq(0)}, 1, api.ErrJump)
	slips(t, "a want ahead of going on", []api.Ins{take, end}, 1, api.ErrStack)
	slips(t, "the label's number alone", []api.Ins{try(0), ifeq(0), raise}, 1, api.ErrStack)
	slips(t, "the number behind alone", []api.Ins{ifeq(2), try(1), take, raise}, 1, api.ErrStack)
}

func TestNeverReached(t *testing.T) {
	hasTries(t, "behind ret", []api.Ins{ret, take}, 0, never)
	hasTries(t, "an end that would be wrong", []api.Ins{ret, end, end, take}, 0, never, never, never)
	hasTries(t, "a loop of its own", []api.Ins{ret, try(1), jump(1)}, 0, never, never)
	hasTries(t, "a way to what is reached", []api.Ins{jump(2), try(2), ret}, 0, never, 0)
	hasTries(t, "between", []api.Ins{jump(3), end, end, try(5), end, ret, take}, 0, never, never, 0, 1, 0, never)
}

func TestTriesOfNoFunction(t *testing.T) {
	m := module(fn("f", ret), fn("g", take, ret))
	for _, f := range append(far(), -2, -1, 2, 3, 256) {
		tries, err := vet.Tries(m, f)
		wantChain(t, fmt.Sprint(f), err, api.ErrIndex, "tries", f)
		if len(tries) > 0 {
			t.Errorf("%d: %v", f, tries)
		}
		tries, err = vet.Tries(module(fn("f", ret), fn("g", end)), f)
		wantChain(t, fmt.Sprint(f), err, api.ErrStack, "tries", f, "module", 0, "function", 1, "at", 0)
		if len(tries) > 0 {
			t.Errorf("%d: %v", f, tries)
		}
	}
	for f, want := range [][]int{{0}, {0, 0}} {
		if tries, err := vet.Tries(m, f); err != nil || !slices.Equal(tries, want) {
			t.Errorf("%d: %v, %v", f, tries, err)
		}
	}
	many := many(256)
	many.Funcs[255].Code = []api.Ins{try(0), end, ret, ret}
	if tries, err := vet.Tries(many, 255); err != nil || !slices.Equal(tries, []int{0, 1, 0, never}) {
		t.Errorf("%v, %v", tries, err)
	}
}

// TestSlipsOfLaterFunctions: each function begins anew.
func TestSlipsOfLaterFunctions(t *testing.T) {
	m := module(fn("f", try(0), raise), fn("g", ret), fn("h", take, end, ret))
	refusesAt(t, "the third", m, 2, 1, api.ErrStack)
	m.Funcs[1].Code = []api.Ins{take, take}
	refusesAt(t, "the second", m, 1, 1, api.ErrJump)
	m.Funcs[0].Code = []api.Ins{try(0), jump(0)}
	refusesAt(t, "the first", m, 0, 1, api.ErrStack)
}
