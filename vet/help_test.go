package vet_test

import (
	"errors"
	"slices"
	"strings"
	"testing"

	"troupe/api"
	"troupe/vet"
)

// The table of the chapter: what the operands of each Op are, from OpMove on.
const table = `
move place source
tuple place x n
cons place source source
jump label
ifeq source source label
iflt source source label
ifkind source kind label
iftuple source size label
elem place source size
head place source
tail place source
bif builtin place x
call function
last function
ret
spawn place function x
send source source
peek place label
take
next label
wait label
after label source
self place
try label
end
raise source
exit source
link source
unlink source
monitor place source
demon source
trap source
kill source source
reg source
where place source
unreg source
timer place x
cancel place source
out source
yield
prio source`

// rows are the table's rows by Op: a word, and what its operands are. (There is no row 0.)
var rows = rowsOf(table)

func rowsOf(table string) [][]string {
	all := [][]string{nil}
	for _, line := range strings.Split(strings.TrimSpace(table), "\n") {
		all = append(all, strings.Fields(line))
	}
	return all
}

// what an operand is, "" of one that the table does not name.
func what(op, i int) string {
	row := rows[op]
	if 1+i >= len(row) {
		return ""
	}
	return row[1+i]
}

// op is the Op of a word.
func op(word string) int {
	return slices.IndexFunc(rows, func(row []string) bool { return len(row) > 0 && row[0] == word })
}

func num(n int64) api.Term           { return api.Term{Kind: api.Int, N: n} }
func atom(s string) api.Term         { return api.Term{Kind: api.Atom, Name: s} }
func tup(items ...api.Term) api.Term { return api.Term{Kind: api.Tuple, Items: items} }
func bin(b ...byte) api.Term         { return api.Term{Kind: api.Bin, Bytes: b} }

// nest lays a term into n tuples, one in another.
func nest(t api.Term, n int) api.Term {
	for range n {
		t = tup(t)
	}
	return t
}

// ins is an instruction.
func ins(op int, operands ...int) api.Ins {
	operands = append(slices.Clone(operands), 0, 0, 0)
	return api.Ins{Op: op, A: operands[0], B: operands[1], C: operands[2]}
}

var (
	ret  = ins(api.OpRet)
	end  = ins(api.OpEnd)
	take = ins(api.OpTake)
)

func try(to int) api.Ins   { return ins(api.OpTry, to) }
func jump(to int) api.Ins  { return ins(api.OpJump, to) }
func ifeq(to int) api.Ins  { return ins(api.OpIfEq, 0, 0, to) }
func peek(to int) api.Ins  { return ins(api.OpPeek, 0, to) }
func after(to int) api.Ins { return ins(api.OpAfter, to, 0) }

// fn is a function.
func fn(name string, code ...api.Ins) api.Func { return api.Func{Name: name, Code: code} }

// module is a module of these functions.
func module(funcs ...api.Func) api.Module { return api.Module{Name: "m", Funcs: funcs} }

// one is a module of one function of this code.
func one(code ...api.Ins) api.Module { return module(fn("f", code...)) }

// takes is n times OpTake.
func takes(n int) []api.Ins { return slices.Repeat([]api.Ins{take}, n) }

// codes is code, put together.
func codes(parts ...[]api.Ins) []api.Ins { return slices.Concat(parts...) }

// wantChain looks at each link of a chain: Faults of these Ops and Ns, around a kind, and nothing else.
func wantChain(t *testing.T, what string, err error, kind api.Errno, links ...any) {
	t.Helper()
	at := err
	for i := 0; i < len(links); i += 2 {
		f, ok := at.(*api.Fault)
		if !ok || f.Op != links[i] || f.N != links[i+1] {
			t.Errorf("%s: %#v is not %v %v at link %d of %v", what, at, links[i], links[i+1], i/2, err)
			return
		}
		at = f.Err
	}
	if at != error(kind) || !errors.Is(err, kind) {
		t.Errorf("%s: the root of %v is not %v", what, err, kind)
	}
}

// right asks that a module is right, by Module and by Tries of each function.
func right(t *testing.T, what string, m api.Module) {
	t.Helper()
	if err := vet.Module(m); err != nil {
		t.Errorf("%s: %v", what, err)
	}
	for f := range m.Funcs {
		if tries, err := vet.Tries(m, f); err != nil || len(tries) != len(m.Funcs[f].Code) {
			t.Errorf("%s: %d tries of %d, %v", what, len(tries), f, err)
		}
	}
}

// refuses asks that a module is not right: a Fault "module" around these links and a kind; and Tries' own around that.
func refuses(t *testing.T, what string, m api.Module, kind api.Errno, links ...any) {
	t.Helper()
	links = append([]any{"module", 0}, links...)
	wantChain(t, what, vet.Module(m), kind, links...)
	for _, f := range []int{0, len(m.Funcs) - 1, -1, len(m.Funcs)} {
		tries, err := vet.Tries(m, f)
		wantChain(t, what, err, kind, append([]any{"tries", f}, links...)...)
		if len(tries) > 0 {
			t.Errorf("%s: %d tries beside the chain", what, len(tries))
		}
	}
}

// refusesAt asks that a module is not right at an instruction of its function f.
func refusesAt(t *testing.T, what string, m api.Module, f, at int, kind api.Errno) {
	t.Helper()
	refuses(t, what, m, kind, "function", f, "at", at)
}

// hasTries asks for the tries of a module's only function.
func hasTries(t *testing.T, what string, code []api.Ins, want ...int) {
	t.Helper()
	m := one(code...)
	right(t, what, m)
	if got, err := vet.Tries(m, 0); err != nil || !slices.Equal(got, want) {
		t.Errorf("%s: %v, %v, not %v", what, got, err, want)
	}
}

// slips asks that a module's only function is not right at an instruction.
func slips(t *testing.T, what string, code []api.Ins, at int, kind api.Errno) {
	t.Helper()
	refusesAt(t, what, one(code...), 0, at, kind)
}
