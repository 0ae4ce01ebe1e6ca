package vet_test

import (
	"fmt"
	"math"
	"slices"
	"strings"
	"testing"

	"troupe/api"
	"troupe/tree"
	"troupe/vet"
)

// P10.1 of what a module and its functions are, without their instructions; which of several faults counts.

// least is a module that is right, with nothing in it that it need not have.
func least() api.Module { return api.Module{Funcs: []api.Func{fn("f", ret)}} }

// many is a module of so many functions, each of another name.
func many(n int) api.Module {
	m := api.Module{}
	for i := range n {
		m.Funcs = append(m.Funcs, fn(fmt.Sprintf("f%d", i), ret))
	}
	return m
}

func TestExamples(t *testing.T) {
	right(t, "ret", one(ret))
	for text, code := range map[string]api.Ins{"module: function: at: jump": jump(5), "module: function: at: stack": end} {
		if err := vet.Module(one(code)); err == nil || err.Error() != text {
			t.Errorf("%v, not %s", err, text)
		}
	}
	slips(t, "jump 5", []api.Ins{jump(5)}, 0, api.ErrJump)
	slips(t, "end", []api.Ins{end}, 0, api.ErrStack)
}

func TestNameOfAModule(t *testing.T) {
	for n, is := range map[int]bool{0: true, 1: true, 254: true, 255: true, 256: false, 257: false, 1 << 20: false} {
		m := least()
		m.Name = strings.Repeat("\xff", n)
		if is {
			right(t, fmt.Sprint(n), m)
		} else {
			refuses(t, fmt.Sprint(n), m, api.ErrTable)
		}
	}
}

func TestCounts(t *testing.T) {
	refuses(t, "an empty module", api.Module{}, api.ErrTable)
	refuses(t, "no function", api.Module{Name: "m", Lits: []api.Term{num(1)}, Funcs: []api.Func{}}, api.ErrTable)
	right(t, "one function", many(1))
	right(t, "as many functions as may be", many(256))
	refuses(t, "a function too many", many(257), api.ErrTable)
	for _, n := range []int{0, 1, 65535, 65536} {
		m := least()
		m.Lits = slices.Repeat([]api.Term{num(7)}, n)
		right(t, fmt.Sprint(n, " literals"), m)
	}
	m := least()
	m.Lits = slices.Repeat([]api.Term{num(7)}, 65537)
	refuses(t, "a literal too many", m, api.ErrTable)
}

func TestLiteralsThatMayNotBe(t *testing.T) {
	wide := tup(slices.Repeat([]api.Term{num(1)}, 65535)...)
	full := tup(slices.Repeat([]api.Term{num(1)}, 65536)...)
	for i, x := range []struct {
		lits  []api.Term
		place int
		part  int
		kind  api.Errno
	}{
		{[]api.Term{{}}, 0, 0, api.ErrArg},
		{[]api.Term{num(1), atom("a"), tup(num(1), atom(""))}, 2, 2, api.ErrArg},
		{[]api.Term{num(1), atom(strings.Repeat("a", 256)), {}}, 1, 0, api.ErrArg},
		{[]api.Term{nest(num(1), 199), nest(num(1), 200)}, 1, 200, api.ErrFull},
		{[]api.Term{wide, wide, full}, 2, 65536, api.ErrFull},
		{[]api.Term{bin(make([]byte, 65535)...), bin(make([]byte, 65536)...)}, 1, 0, api.ErrFull},
	} {
		m := least()
		m.Lits = x.lits
		refuses(t, fmt.Sprint(i), m, x.kind, "literal", x.place, "term", x.part)
		if f, ok := vet.Module(m).(*api.Fault).Err.(*api.Fault); !ok || f.Err.Error() != tree.Right(x.lits[x.place]).Error() {
			t.Errorf("%d: %v is not around tree's chain", i, f)
		}
		m.Lits = m.Lits[:x.place]
		right(t, fmt.Sprint(i, " up to there"), m)
	}
	m := least()
	m.Lits = slices.Repeat([]api.Term{num(7)}, 65536)
	m.Lits[65535] = api.Term{}
	refuses(t, "the last one", m, api.ErrArg, "literal", 65535, "term", 0)
}

// TestLiteralsThatHoldThemselves: a term of any form comes to an end.
func TestLiteralsThatHoldThemselves(t *testing.T) {
	x := tup(num(1), num(2))
	x.Items[1] = x
	m := least()
	m.Lits = []api.Term{x}
	if err := vet.Module(m); err == nil {
		t.Error("a term that holds itself may be")
	}
}

func TestNamesOfFunctions(t *testing.T) {
	for n, is := range map[int]bool{0: false, 1: true, 2: true, 254: true, 255: true, 256: false, 1 << 16: false} {
		m := module(fn("f", ret), fn("g", ret), fn(strings.Repeat("\x00", n), ret))
		if is {
			right(t, fmt.Sprint(n), m)
		} else {
			refuses(t, fmt.Sprint(n), m, api.ErrTable, "function", 2)
		}
	}
	refuses(t, "the first one", module(fn("", ret), fn("g", ret)), api.ErrTable, "function", 0)
}

func TestTheSameNameTwice(t *testing.T) {
	a, b := fn("a", ret), fn("b", ret)
	refuses(t, "a a", module(a, a), api.ErrTable, "function", 1)
	refuses(t, "a b a", module(a, b, a), api.ErrTable, "function", 2)
	refuses(t, "a b b a", module(a, b, b, a), api.ErrTable, "function", 2)
	refuses(t, "a a a", module(a, a, a), api.ErrTable, "function", 1)
	right(t, "another one", module(a, fn("A", ret), fn("a\x00", ret), fn("aa", ret), fn("\xe9", ret), fn("é", ret)))
	m := many(256)
	m.Funcs[255].Name = "f0"
	refuses(t, "the last and the first", m, api.ErrTable, "function", 255)
	long := strings.Repeat("a", 255)
	refuses(t, "long ones", module(fn(long, ret), fn(long, ret)), api.ErrTable, "function", 1)
	right(t, "long ones that part at their end", module(fn(long, ret), fn(long[1:]+"b", ret)))
	right(t, "a function by the module's name", module(fn("m", ret)))
}

// numbers that are far from all that may be.
func far() []int {
	return []int{math.MinInt, math.MinInt + 1, -1 << 40, -1 << 32, -1 << 31, 1 << 31, 1 << 32, 1<<32 + 1, 1 << 40, math.MaxInt - 64, math.MaxInt - 1, math.MaxInt}
}

func TestArgsAndSlots(t *testing.T) {
	for _, n := range append(far(), -2, -1, 0, 1, 7, 8, 9, 10, 16, 31, 32, 33, 34) {
		args, slots := least(), least()
		args.Funcs[0].Args, slots.Funcs[0].Slots = n, n
		if n >= 0 && n <= 8 {
			right(t, fmt.Sprint(n, " args"), args)
		} else {
			refuses(t, fmt.Sprint(n, " args"), args, api.ErrTable, "function", 0)
		}
		if n >= 0 && n <= 32 {
			right(t, fmt.Sprint(n, " slots"), slots)
		} else {
			refuses(t, fmt.Sprint(n, " slots"), slots, api.ErrTable, "function", 0)
		}
	}
	m := many(3)
	m.Funcs[1].Args, m.Funcs[2].Slots = 8, 33
	refuses(t, "the last one's slots", m, api.ErrTable, "function", 2)
	m.Funcs[1].Args = 9
	refuses(t, "the second one's args", m, api.ErrTable, "function", 1)
}

func TestHowManyInstructions(t *testing.T) {
	refuses(t, "none", one(), api.ErrTable, "function", 0)
	refuses(t, "none in the second", module(fn("f", ret), fn("g")), api.ErrTable, "function", 1)
	right(t, "one", one(ret))
	right(t, "as many as may be", one(append(takes(16383), ret)...))
	refuses(t, "one too many", one(append(takes(16384), ret)...), api.ErrTable, "function", 0)
	refuses(t, "one too many that is never reached", one(append([]api.Ins{ret}, takes(16384)...)...), api.ErrTable, "function", 0)
}

// fault is something that is wrong with a module of three functions: how it is done, and how it is told.
type fault struct {
	name  string
	do    func(m *api.Module)
	kind  api.Errno
	links []any
}

// faults are in the order in which they count. (Of one number several ways are told in the same way.)
func faults() []fault {
	all := []fault{
		{"module's name", func(m *api.Module) { m.Name = strings.Repeat("m", 256) }, api.ErrTable, nil},
		{"literal 1", func(m *api.Module) { m.Lits[1] = atom("") }, api.ErrArg, []any{"literal", 1, "term", 0}},
		{"literal 2", func(m *api.Module) { m.Lits[2] = nest(num(1), 200) }, api.ErrFull, []any{"literal", 2, "term", 200}},
	}
	for f := range 3 {
		at := func(name string, n int, kind api.Errno, x api.Ins) {
			all = append(all, fault{fmt.Sprint(name, " of ", f), func(m *api.Module) { m.Funcs[f].Code[n] = x }, kind, []any{"function", f, "at", n}})
		}
		all = append(all,
			fault{fmt.Sprint("name of ", f), func(m *api.Module) { m.Funcs[f].Name = "" }, api.ErrTable, []any{"function", f}},
			fault{fmt.Sprint("args of ", f), func(m *api.Module) { m.Funcs[f].Args = 9 }, api.ErrTable, []any{"function", f}},
			fault{fmt.Sprint("slots of ", f), func(m *api.Module) { m.Funcs[f].Slots = -1 }, api.ErrTable, []any{"function", f}})
		at("op", 1, api.ErrArg, ins(42, 99, 99, 99))
		at("an operand", 2, api.ErrIndex, ins(api.OpMove, 48, 48))
		at("an operand that is never reached", 5, api.ErrJump, jump(-1))
		at("the last operand", 7, api.ErrArg, ins(api.OpRet, 0, 0, 1))
		at("tries", 0, api.ErrStack, end)
		at("later tries", 3, api.ErrStack, end)
	}
	return all
}

// whole is a module that is right, with room for each of the faults.
func whole() api.Module {
	m := api.Module{Name: "m", Lits: []api.Term{num(0), num(1), num(2)}}
	for _, name := range []string{"f", "g", "h"} {
		m.Funcs = append(m.Funcs, fn(name, take, take, take, take, ret, take, take, ret))
	}
	return m
}

func TestWhichOfTwoFaultsCounts(t *testing.T) {
	right(t, "no fault", whole())
	all := faults()
	for i, a := range all {
		m := whole()
		a.do(&m)
		refuses(t, a.name, m, a.kind, a.links...)
		for _, b := range all[i+1:] {
			m := whole()
			a.do(&m)
			b.do(&m)
			refuses(t, a.name+" and "+b.name, m, a.kind, a.links...)
		}
	}
}

func TestCountsCountAheadOfParts(t *testing.T) {
	m := whole()
	m.Funcs[0].Name, m.Lits[0] = "", api.Term{}
	m.Funcs = append(m.Funcs, many(254).Funcs...)
	refuses(t, "too many functions", m, api.ErrTable)
	m = whole()
	m.Lits = slices.Repeat([]api.Term{{}}, 65537)
	refuses(t, "too many literals", m, api.ErrTable)
	m = whole()
	m.Lits[0], m.Funcs = api.Term{}, nil
	refuses(t, "no functions", m, api.ErrTable)
	m = module(fn("f"), fn("", ret))
	refuses(t, "no instructions ahead of a name", m, api.ErrTable, "function", 0)
	m = module(fn("f", jump(1)), fn("f", ret))
	refusesAt(t, "an instruction ahead of a name twice", m, 0, 0, api.ErrJump)
	m = module(fn("f", end), fn("f", ret))
	refusesAt(t, "tries ahead of a name twice", m, 0, 0, api.ErrStack)
}
