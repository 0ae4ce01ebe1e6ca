package vet_test

import (
	"fmt"
	"math/rand"
	"slices"
	"testing"

	"troupe/api"
	"troupe/bif"
	"troupe/vet"
)

// P10.1 to P10.3 against a slow model that follows the chapter's words, on all short functions and on many by chance.

// verdict is what is wrong with a module's function, at which instruction (-1: with itself); or the tries of each function.
type verdict struct {
	kind  api.Errno
	f, at int
	tries [][]int
}

// slowly is what is wrong with a module of few functions whose names and literals are right.
func slowly(m api.Module) verdict {
	var all [][]int
	for i, f := range m.Funcs {
		if f.Args < 0 || f.Args > 8 || f.Slots < 0 || f.Slots > 32 {
			return verdict{kind: api.ErrTable, f: i, at: -1}
		}
		for at, x := range f.Code {
			if kind := slowOperands(m, f, x); kind != api.OK {
				return verdict{kind: kind, f: i, at: at}
			}
		}
		tries, at, kind := slowTries(f.Code)
		if kind != api.OK {
			return verdict{kind: kind, f: i, at: at}
		}
		all = append(all, tries)
	}
	return verdict{tries: all}
}

// slowOperands is what is wrong with an instruction by itself.
func slowOperands(m api.Module, f api.Func, x api.Ins) api.Errno {
	if x.Op < 1 || x.Op > 41 {
		return api.ErrArg
	}
	for i, n := range []int{x.A, x.B, x.C} {
		may, kind := slowRange(m, f, what(x.Op, i))
		if !slices.Contains(may, n) {
			return kind
		}
	}
	used := 0
	switch rows[x.Op][0] {
	case "tuple":
		used = x.B + x.C
	case "timer":
		used = x.B + 3
	case "spawn":
		used = x.C + m.Funcs[x.B].Args
	case "bif":
		_, n, _ := bif.Name(x.A)
		used = x.C + n
	}
	if used > 16 {
		return api.ErrIndex
	}
	return api.OK
}

// upTo are the numbers from least to most.
func upTo(least, most int) []int {
	var ns []int
	for n := least; n <= most; n++ {
		ns = append(ns, n)
	}
	return ns
}

// slowRange are all numbers that an operand may be, as far as chance goes, and the kind of all others.
func slowRange(m api.Module, f api.Func, what string) ([]int, api.Errno) {
	switch what {
	case "place":
		return slices.Concat(upTo(0, 15), upTo(16, 15+f.Slots)), api.ErrIndex
	case "source":
		return slices.Concat(upTo(0, 15), upTo(16, 15+f.Slots), upTo(64, 63+len(m.Lits))), api.ErrIndex
	case "x":
		return upTo(0, 15), api.ErrIndex
	case "function":
		return upTo(0, len(m.Funcs)-1), api.ErrIndex
	case "builtin":
		return upTo(0, 39), api.ErrIndex
	case "label":
		return upTo(0, len(f.Code)-1), api.ErrJump
	case "kind":
		return upTo(1, 9), api.ErrArg
	case "n":
		return upTo(0, 16), api.ErrArg
	case "size":
		return upTo(0, 200), api.ErrArg
	}
	return []int{0}, api.ErrArg
}

// slowTries goes through a function whose operands are right: by a list of places that is laid in order each time.
func slowTries(code []api.Ins) (tries []int, at int, kind api.Errno) {
	found, list := map[int]int{0: 0}, []int{0}
	for len(list) > 0 {
		slices.Sort(list)
		at, list = list[0], list[1:]
		x, n := code[at], found[at]
		word := rows[x.Op][0]
		if word == "end" && n < 1 || (word == "ret" || word == "last") && n != 0 {
			return nil, at, api.ErrStack
		}
		var to, with []int
		on, label := goes(x.Op)
		first, second := behind(x.Op, n)
		if on {
			to, with = append(to, at+1), append(with, first)
		}
		if label >= 0 {
			to, with = append(to, []int{x.A, x.B, x.C}[label]), append(with, second)
		}
		for i := range to {
			if to[i] == len(code) {
				return nil, at, api.ErrJump
			}
			old, ok := found[to[i]]
			if ok && old != with[i] || with[i] > 8 {
				return nil, at, api.ErrStack
			}
			if !ok {
				found[to[i]], list = with[i], append(list, to[i])
			}
		}
	}
	for i := range code {
		n, ok := found[i]
		if !ok {
			n = never
		}
		tries = append(tries, n)
	}
	return tries, 0, api.OK
}

// agrees asks that a module is judged as the model judges it.
func agrees(t *testing.T, m api.Module) verdict {
	t.Helper()
	v := slowly(m)
	err := vet.Module(m)
	if v.kind == api.OK {
		if err != nil {
			t.Fatalf("%+v: %v", m, err)
		}
		for f := range m.Funcs {
			if tries, err := vet.Tries(m, f); err != nil || !slices.Equal(tries, v.tries[f]) {
				t.Fatalf("%+v: %v, %v, not %v", m, tries, err, v.tries[f])
			}
		}
		return v
	}
	links := []any{"module", 0, "function", v.f}
	if v.at >= 0 {
		links = append(links, "at", v.at)
	}
	wantChain(t, "by chance", err, v.kind, links...)
	_, err = vet.Tries(m, 0)
	wantChain(t, "by chance", err, v.kind, append([]any{"tries", 0}, links...)...)
	if t.Failed() {
		t.Fatalf("%+v", m)
	}
	return v
}

// TestAllShortFunctions: each function of up to four instructions, of those that go in different ways.
func TestAllShortFunctions(t *testing.T) {
	for n := 1; n <= 4; n++ {
		some := []api.Ins{take, end, ret, raise}
		for to := range n {
			some = append(some, try(to), jump(to), ifeq(to))
		}
		code := make([]api.Ins, n)
		var each func(at int)
		each = func(at int) {
			if at == n {
				agrees(t, one(code...))
				return
			}
			for _, x := range some {
				code[at] = x
				each(at + 1)
			}
		}
		each(0)
	}
}

// chance is an instruction by chance: one that goes somewhere more often than others, mostly right by its operands.
func chance(r *rand.Rand, m api.Module, f api.Func) api.Ins {
	x := r.Intn(60)
	often := []int{api.OpTry, api.OpTry, api.OpTry, api.OpEnd, api.OpEnd, api.OpEnd, api.OpIfEq, api.OpJump, api.OpPeek, api.OpRaise, api.OpTake}
	if x < 1 || x > 41 {
		x = often[r.Intn(len(often))]
	}
	return operandsBy(r, m, f, x)
}

// operandsBy is an instruction of an Op whose operands are right one by one.
func operandsBy(r *rand.Rand, m api.Module, f api.Func, x int) api.Ins {
	var operands []int
	for i := range 3 {
		may, _ := slowRange(m, f, what(x, i))
		operands = append(operands, may[r.Intn(len(may))])
	}
	return ins(x, operands...)
}

// rightBy is an instruction by chance that is right by its operands.
func rightBy(r *rand.Rand, m api.Module, f api.Func, x int) api.Ins {
	for {
		if y := operandsBy(r, m, f, x); slowOperands(m, f, y) == api.OK {
			return y
		}
	}
}

// moduleBy is a module by chance.
func moduleBy(r *rand.Rand, funcs, size int) api.Module {
	m := api.Module{Name: "m", Lits: slices.Repeat([]api.Term{num(1)}, r.Intn(4))}
	for i := range 1 + r.Intn(funcs) {
		m.Funcs = append(m.Funcs, api.Func{Name: fmt.Sprint(i), Args: r.Intn(9), Slots: r.Intn(33), Code: make([]api.Ins, 1+r.Intn(size))})
	}
	for i, f := range m.Funcs {
		for at := range f.Code {
			m.Funcs[i].Code[at] = rightBy(r, m, f, chance(r, m, f).Op)
		}
	}
	return m
}

// mend turns instructions of a module till it is right: each that slips into one that goes nowhere.
func mend(m api.Module) {
	for v := slowly(m); v.kind != api.OK; v = slowly(m) {
		m.Funcs[v.f].Code[v.at] = raise
	}
}

func TestModulesByChance(t *testing.T) {
	r := rand.New(rand.NewSource(10))
	kinds := map[api.Errno]int{}
	for range 30000 {
		kinds[agrees(t, moduleBy(r, 2, 9)).kind]++
	}
	for _, kind := range []api.Errno{api.OK, api.ErrJump, api.ErrStack} {
		if kinds[kind] < 100 {
			t.Errorf("only %d of %v", kinds[kind], kind)
		}
	}
}

// TestModulesTurnedByChance: operands that are anything, in modules that are right without them.
func TestModulesTurnedByChance(t *testing.T) {
	r := rand.New(rand.NewSource(11))
	for range 20000 {
		m := moduleBy(r, 3, 6)
		mend(m)
		agrees(t, m)
		for range 1 + r.Intn(3) {
			f := &m.Funcs[r.Intn(len(m.Funcs))]
			x := &f.Code[r.Intn(len(f.Code))]
			n := r.Intn(90) - 3
			switch r.Intn(6) {
			case 0:
				x.Op = n
			case 1:
				f.Args = r.Intn(40) - 2
			case 2, 3:
				x.A = n
			case 4:
				x.B = n
			case 5:
				x.C = n
			}
		}
		agrees(t, m)
	}
}

// TestLongFunctionsByChance: of modules that are right, each number is borne out by all ways to it.
func TestLongFunctionsByChance(t *testing.T) {
	r := rand.New(rand.NewSource(12))
	reached, deepest := 0, 0
	for range 1500 {
		m := moduleBy(r, 2, 60)
		mend(m)
		agrees(t, m)
		for f, x := range m.Funcs {
			tries, _ := vet.Tries(m, f)
			for at, n := range tries {
				if n == never {
					continue
				}
				reached, deepest = reached+1, max(deepest, n)
				on, label := goes(x.Code[at].Op)
				first, second := behind(x.Code[at].Op, n)
				if on && tries[at+1] != first || label >= 0 && tries[[]int{x.Code[at].A, x.Code[at].B, x.Code[at].C}[label]] != second {
					t.Fatalf("%+v: %v at %d", x.Code, tries, at)
				}
			}
			if tries[0] != 0 || slices.Max(tries) > 8 || slices.Min(tries) < never {
				t.Fatalf("%+v: %v", x.Code, tries)
			}
		}
	}
	if reached < 5000 || deepest < 4 {
		t.Errorf("%d reached, %d tries at most", reached, deepest)
	}
}

// TestWhatIsNeverReached: P10.3: it may be any instruction that is right by its operands, the last one too.
func TestWhatIsNeverReached(t *testing.T) {
	r := rand.New(rand.NewSource(13))
	turned, last := 0, 0
	for range 600 {
		m := moduleBy(r, 2, 8)
		mend(m)
		for f, x := range m.Funcs {
			tries, _ := vet.Tries(m, f)
			for at, n := range tries {
				if n != never {
					continue
				}
				old := x.Code[at]
				for op := api.OpMove; op <= api.OpPrio; op++ {
					x.Code[at] = rightBy(r, m, x, op)
					if got, err := vet.Tries(m, f); err != nil || !slices.Equal(got, tries) {
						t.Fatalf("%+v, %d: %v, %v, not %v", x.Code, at, got, err, tries)
					}
				}
				x.Code[at] = ins(api.OpOut, 63)
				refusesAt(t, "wrong by its operands", m, f, at, api.ErrIndex)
				x.Code[at] = old
				turned++
				if at == len(x.Code)-1 {
					last++
				}
			}
		}
	}
	if turned < 200 || last < 50 {
		t.Errorf("only %d were never reached, %d of them the last ones", turned, last)
	}
}
