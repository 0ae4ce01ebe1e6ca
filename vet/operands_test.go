package vet_test

import (
	"fmt"
	"slices"
	"testing"

	"troupe/api"
	"troupe/bif"
)

// P10.1 of an instruction's Op and operands.

const (
	hostSlots = 3 // of the function in which instructions are tried
	hostLits  = 5
	hostFuncs = 4
	hostCode  = 6
	hostAt    = 2 // where the instruction stands
)

// host is a module with one instruction of any kind, which is never reached, in its function 1.
func host(x api.Ins) api.Module {
	m := api.Module{Name: "m", Lits: slices.Repeat([]api.Term{num(1)}, hostLits)}
	for i := range hostFuncs {
		m.Funcs = append(m.Funcs, fn(string(rune('a'+i)), ret))
	}
	m.Funcs[1].Slots = hostSlots
	m.Funcs[1].Code = []api.Ins{take, ret, x, take, take, ret}
	return m
}

// bad is what is wrong with an operand of the host, OK: nothing.
func bad(what string, n int) api.Errno {
	within := func(least, most int, kind api.Errno) api.Errno {
		if n < least || n > most {
			return kind
		}
		return api.OK
	}
	switch what {
	case "place", "source":
		if within(0, 15, 1) == 0 || within(16, 15+hostSlots, 1) == 0 || what == "source" && within(64, 63+hostLits, 1) == 0 {
			return api.OK
		}
		return api.ErrIndex
	case "x":
		return within(0, 15, api.ErrIndex)
	case "label":
		return within(0, hostCode-1, api.ErrJump)
	case "function":
		return within(0, hostFuncs-1, api.ErrIndex)
	case "builtin":
		return within(0, 39, api.ErrIndex)
	case "kind":
		return within(1, 9, api.ErrArg)
	case "n":
		return within(0, 16, api.ErrArg)
	case "size":
		return within(0, 65536, api.ErrArg)
	}
	return within(0, 0, api.ErrArg)
}

// some is an operand that is right, whatever the others are.
func some(what string) int {
	if what == "kind" {
		return 9
	}
	return 0
}

// plain is an instruction whose operands are right.
func plain(op int) [3]int {
	return [3]int{some(what(op, 0)), some(what(op, 1)), some(what(op, 2))}
}

// numbers are all that is near to something, and what is far.
func numbers() []int {
	ns := append(far(), 65535, 65536, 65537, 1<<16+64, 16383, 16384, 4096, 255, 256, 512)
	for n := range 134 {
		ns = append(ns, n-4)
	}
	return ns
}

func TestTheTableIsWhole(t *testing.T) {
	if len(rows) != api.OpPrio+1 || op("move") != api.OpMove || op("where") != api.OpWhere || op("unreg") != api.OpUnreg || op("prio") != api.OpPrio || op("timer") != api.OpTimer {
		t.Fatal(len(rows))
	}
}

func TestOps(t *testing.T) {
	for op := api.OpMove; op <= api.OpPrio; op++ {
		right(t, rows[op][0], host(ins(op, plain(op)[0], plain(op)[1], plain(op)[2])))
	}
	for _, op := range append(far(), 0, -1, -2, 42, 43, 64, 255, 256, 257, 256+api.OpRet) {
		for _, x := range []api.Ins{{Op: op}, {Op: op, A: -1, B: -1, C: -1}, {Op: op, A: 48}} {
			refusesAt(t, fmt.Sprint(x), host(x), 1, hostAt, api.ErrArg)
		}
	}
}

// TestEachOperand turns one operand of an instruction that is right.
func TestEachOperand(t *testing.T) {
	for op := api.OpMove; op <= api.OpPrio; op++ {
		for i := range 3 {
			for _, n := range numbers() {
				operands := plain(op)
				operands[i] = n
				x := ins(op, operands[:]...)
				kind := bad(what(op, i), n)
				if kind == api.OK && tooFar(x) {
					kind = api.ErrIndex
				}
				m := host(x)
				if kind == api.OK {
					right(t, fmt.Sprint(x), m)
				} else {
					refusesAt(t, fmt.Sprint(x), m, 1, hostAt, kind)
				}
			}
		}
	}
}

// tooFar tells whether an instruction of the host uses registers beyond the last one.
func tooFar(x api.Ins) bool {
	switch x.Op {
	case api.OpTuple:
		return x.B+x.C > 16
	case api.OpTimer:
		return x.B > 13
	case api.OpBif:
		_, n, _ := bif.Name(x.A)
		return x.C+n > 16
	}
	return false
}

// TestWhichOperandCounts turns two operands, or all three.
func TestWhichOperandCounts(t *testing.T) {
	ns := []int{-1, 0, 1, 9, 15, 16, 18, 19, 48, 70, 1 << 20}
	for op := api.OpMove; op <= api.OpPrio; op++ {
		for _, a := range ns {
			for _, b := range ns {
				for _, c := range ns {
					x := ins(op, a, b, c)
					kind := api.OK
					for i, n := range []int{c, b, a} {
						if k := bad(what(op, 2-i), n); k != api.OK {
							kind = k
						}
					}
					if kind == api.OK && tooFar(x) {
						kind = api.ErrIndex
					}
					if kind == api.OK {
						right(t, fmt.Sprint(x), host(x))
					} else {
						refusesAt(t, fmt.Sprint(x), host(x), 1, hostAt, kind)
					}
				}
			}
		}
	}
}

// TestSlots: a slot is below the function's own Slots.
func TestSlots(t *testing.T) {
	for slots := range 33 {
		for n := 14; n < 66; n++ {
			m := one(ins(api.OpMove, 0, n), ins(api.OpMove, n, 0), ret)
			m.Funcs = append(m.Funcs, fn("g", ret))
			m.Funcs[0].Slots, m.Funcs[1].Slots = slots, 32
			if n < 16 || n < 16+slots {
				right(t, fmt.Sprint(slots, n), m)
			} else {
				refusesAt(t, fmt.Sprint(slots, n), m, 0, 0, api.ErrIndex)
			}
		}
	}
	m := module(fn("f", ret), fn("g", ins(api.OpSelf, 16+7), ret))
	m.Funcs[1].Slots = 8
	right(t, "the last slot", m)
	m.Funcs[0].Slots, m.Funcs[1].Slots = 32, 7
	refusesAt(t, "another function's slot", m, 1, 0, api.ErrIndex)
}

func TestLiterals(t *testing.T) {
	for _, n := range []int{0, 1, 2, 1000, 65535, 65536} {
		m := one(ins(api.OpOut, 63+n), ret)
		m.Lits = slices.Repeat([]api.Term{num(1)}, n)
		if n > 0 {
			right(t, fmt.Sprint(n, ": the last"), m)
		}
		m.Funcs[0].Code[0].A++
		refusesAt(t, fmt.Sprint(n, ": behind the last"), m, 0, 0, api.ErrIndex)
		m.Funcs[0].Slots = 32
		for a := 48; a < 64; a++ {
			m.Funcs[0].Code[0].A = a
			refusesAt(t, fmt.Sprint(n, ": between slots and literals"), m, 0, 0, api.ErrIndex)
		}
	}
}

func TestLabels(t *testing.T) {
	for _, n := range []int{1, 2, 3, 100, 16384} {
		code := append(takes(n-1), ret)
		code[n-1] = jump(0)
		right(t, "to the first", one(code...))
		code[n-1] = jump(n - 1)
		right(t, "to itself", one(code...))
		code[n-1] = jump(n)
		slips(t, "behind the last", code, n-1, api.ErrJump)
		code[n-1] = jump(-1)
		slips(t, "ahead of the first", code, n-1, api.ErrJump)
	}
	m := module(fn("f", take, take, ret), fn("g", jump(1)))
	refusesAt(t, "another function's label", m, 1, 0, api.ErrJump)
}

func TestFunctionsOfTheModule(t *testing.T) {
	for _, n := range []int{1, 2, 255, 256} {
		for _, op := range []int{api.OpCall, api.OpLast} {
			m := many(n)
			m.Funcs[n-1].Code = []api.Ins{ins(op, n-1), ret}
			right(t, "the last one", m)
			m.Funcs[n-1].Code = []api.Ins{ins(op, n), ret}
			refusesAt(t, "behind the last one", m, n-1, 0, api.ErrIndex)
		}
	}
}

// TestTheTableOfFunctions: bif's functions, each with as many registers as it has arguments.
func TestTheTableOfFunctions(t *testing.T) {
	last := bif.Number("hash")
	for f := range last + 1 {
		_, args, _ := bif.Name(f)
		right(t, "the registers up to the last", host(ins(api.OpBif, f, 0, 16-args)))
		if args > 1 { // else x itself is no register
			refusesAt(t, "one behind the last", host(ins(api.OpBif, f, 0, 17-args)), 1, hostAt, api.ErrIndex)
		}
		refusesAt(t, "x itself", host(ins(api.OpBif, f, 0, 16)), 1, hostAt, api.ErrIndex)
	}
	refusesAt(t, "behind the last function", host(ins(api.OpBif, last+1, 0, 0)), 1, hostAt, api.ErrIndex)
}

// TestRegistersOfTuplesAndTimers: as many as are used lie below 16; x itself too, where none is used.
func TestRegistersOfTuplesAndTimers(t *testing.T) {
	for x := -1; x < 18; x++ {
		for n := -1; n < 19; n++ {
			kind := api.OK
			switch {
			case x < 0 || x > 15:
				kind = api.ErrIndex
			case n < 0 || n > 16:
				kind = api.ErrArg
			case x+n > 16:
				kind = api.ErrIndex
			}
			code := ins(api.OpTuple, 0, x, n)
			if kind == api.OK {
				right(t, fmt.Sprint(code), host(code))
			} else {
				refusesAt(t, fmt.Sprint(code), host(code), 1, hostAt, kind)
			}
		}
		for c, kind := range []api.Errno{api.ErrIndex, api.ErrArg} {
			code := ins(api.OpTimer, 0, x, c)
			switch {
			case x < 0 || x > 15:
				refusesAt(t, fmt.Sprint(code), host(code), 1, hostAt, api.ErrIndex)
			case x > 13 || c > 0: // what stands behind x is told ahead of the registers that are used
				refusesAt(t, fmt.Sprint(code), host(code), 1, hostAt, kind)
			default:
				right(t, fmt.Sprint(code), host(code))
			}
		}
	}
}

// spawner is a module of three functions, the middle one of which spawns another one.
func spawner(whom, x int) api.Module {
	return module(fn("f", ret), fn("g", ins(api.OpSpawn, 0, whom, x), ret), fn("h", ret))
}

func TestRegistersOfSpawn(t *testing.T) {
	for args := range 9 {
		for x := -1; x < 18; x++ {
			for whom := range 3 {
				m := spawner(whom, x)
				m.Funcs[whom].Args = args
				if x >= 0 && x <= 15 && x+args <= 16 {
					right(t, fmt.Sprint(args, x, whom), m)
				} else {
					refusesAt(t, fmt.Sprint(args, x, whom), m, 1, 0, api.ErrIndex)
				}
			}
		}
	}
	refusesAt(t, "no function", spawner(3, 0), 1, 0, api.ErrIndex)
	refusesAt(t, "no function below", spawner(-1, 0), 1, 0, api.ErrIndex)
}

// TestSpawnOfAFunctionWithWrongArgs: ahead of it that one's own numbers count; behind it they count with x, by what they are said to be.
func TestSpawnOfAFunctionWithWrongArgs(t *testing.T) {
	for _, args := range append(far(), -17, -16, -9, -2, -1, 9, 10, 15, 16, 17, 18) {
		for x := range 16 {
			m := spawner(0, x)
			m.Funcs[0].Args = args
			refuses(t, fmt.Sprint(args, x, " ahead"), m, api.ErrTable, "function", 0)
			m = spawner(2, x)
			m.Funcs[2].Args = args
			if args > 16-x {
				refusesAt(t, fmt.Sprint(args, x, " behind"), m, 1, 0, api.ErrIndex)
			} else {
				refuses(t, fmt.Sprint(args, x, " behind"), m, api.ErrTable, "function", 2)
			}
		}
		m := spawner(2, 16)
		m.Funcs[2].Args = args
		refusesAt(t, fmt.Sprint(args, " behind, no x"), m, 1, 0, api.ErrIndex)
		m = spawner(1, 0)
		m.Funcs[1].Args = args
		refuses(t, fmt.Sprint(args, " of itself"), m, api.ErrTable, "function", 1)
	}
}

// TestCallsDoNotCountRegisters: OpCall and OpLast have no x.
func TestCallsDoNotCountRegisters(t *testing.T) {
	for _, op := range []int{api.OpCall, api.OpLast} {
		for _, args := range append(far(), -1, 9, 16, 17) {
			m := module(fn("f", ins(op, 1), ret), fn("g", ret))
			m.Funcs[1].Args = args
			refuses(t, fmt.Sprint(op, args), m, api.ErrTable, "function", 1)
		}
	}
}

// TestOperandsOfInstructionsInTurn: the first instruction that is wrong counts, reached or not, and operands ahead of tries.
func TestOperandsOfInstructionsInTurn(t *testing.T) {
	wrong := ins(api.OpOut, 99)
	for at := range 5 {
		code := append(takes(4), ret)
		code[at] = wrong
		slips(t, "one", code, at, api.ErrIndex)
		for behind := at + 1; behind < 5; behind++ {
			code[behind] = jump(9)
		}
		slips(t, "several", code, at, api.ErrIndex)
	}
	slips(t, "behind a want", []api.Ins{end, ret, wrong}, 2, api.ErrIndex)
	slips(t, "behind a way that goes on", []api.Ins{ret, wrong, take}, 1, api.ErrIndex)
	slips(t, "ahead of the last one that goes on", []api.Ins{take, wrong}, 1, api.ErrIndex)
}
