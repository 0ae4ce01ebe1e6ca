package asm_test

import (
	"bytes"
	"errors"
	"fmt"
	"slices"
	"strings"
	"testing"

	"troupe/api"
	"troupe/asm"
	"troupe/vet"
)

// The words of the chapter, from OpMove on, and what each one's operands are, by the table of layer 10.
const table = `
move place source
tuple place x n
cons place source source
jump label
ifeq source source label
iflt source source label
ifkind source kind label
iftuple source size label
elem place source size
head place source
tail place source
bif builtin place x
call function
last function
ret
spawn place function x
send source source
peek place label
take
next label
wait label
after label source
self place
try label
end
raise source
exit source
link source
unlink source
monitor place source
demon source
trap source
kill source source
reg source
where place source
unreg source
timer place x
cancel place source
out source
yield
prio source`

// rows are the table's rows by Op: a word, and what its operands are. (There is no row 0.)
var rows = rowsOf(table)

func rowsOf(table string) [][]string {
	all := [][]string{nil}
	for _, line := range strings.Split(strings.TrimSpace(table), "\n") {
		all = append(all, strings.Fields(line))
	}
	return all
}

func num(n int64) api.Term            { return api.Term{Kind: api.Int, N: n} }
func atom(s string) api.Term          { return api.Term{Kind: api.Atom, Name: s} }
func ref(n int64) api.Term            { return api.Term{Kind: api.Ref, N: n} }
func pid(n int64) api.Term            { return api.Term{Kind: api.Pid, N: n} }
func tup(items ...api.Term) api.Term  { return api.Term{Kind: api.Tuple, Items: items} }
func list(items ...api.Term) api.Term { return api.Term{Kind: api.List, Items: items} }
func bin(b ...byte) api.Term          { return api.Term{Kind: api.Bin, Bytes: b} }

func open(rest api.Term, items ...api.Term) api.Term {
	return api.Term{Kind: api.List, Items: items, Rest: []api.Term{rest}}
}

// nest lays a term into n tuples, one in another.
func nest(t api.Term, n int) api.Term {
	for range n {
		t = tup(t)
	}
	return t
}

// ins is an instruction.
func ins(op int, operands ...int) api.Ins {
	operands = append(slices.Clone(operands), 0, 0, 0)
	return api.Ins{Op: op, A: operands[0], B: operands[1], C: operands[2]}
}

var (
	ret  = ins(api.OpRet)
	take = ins(api.OpTake)
)

// fn is a function.
func fn(name string, code ...api.Ins) api.Func { return api.Func{Name: name, Code: code} }

// module is a module of these functions.
func module(funcs ...api.Func) api.Module { return api.Module{Name: "m", Funcs: funcs} }

// least is a module of one function that returns.
func least() api.Module { return module(fn("f", ret)) }

// text are lines, each with its end.
func text(lines ...string) string {
	return strings.Join(append(slices.Clone(lines), ""), "\n")
}

// same tells whether two terms are the same in each field; nil and empty lists are one.
func same(a, b api.Term) bool {
	return a.Kind == b.Kind && a.N == b.N && a.Name == b.Name && bytes.Equal(a.Bytes, b.Bytes) &&
		slices.EqualFunc(a.Items, b.Items, same) && slices.EqualFunc(a.Rest, b.Rest, same)
}

func sameFunc(a, b api.Func) bool {
	return a.Name == b.Name && a.Args == b.Args && a.Slots == b.Slots && slices.Equal(a.Code, b.Code)
}

// sameModule tells whether two modules are the same in each field.
func sameModule(a, b api.Module) bool {
	return a.Name == b.Name && slices.EqualFunc(a.Lits, b.Lits, same) && slices.EqualFunc(a.Funcs, b.Funcs, sameFunc)
}

// link is a Fault of a chain, or, with an empty op, its root.
type link struct {
	op   string
	n    int
	root string
}

// links are a chain from the outside in. (What it wraps is looked at by itself, not by the program.)
func links(err error) (all []link) {
	for err != nil {
		f, ok := err.(*api.Fault)
		if !ok {
			return append(all, link{root: fmt.Sprintf("%T %v", err, err)})
		}
		all, err = append(all, link{op: f.Op, n: f.N}), f.Err
	}
	return all
}

// wantChain looks at each link of a chain: Faults of these Ops and Ns, around a kind, and nothing else.
func wantChain(t *testing.T, what string, err error, kind api.Errno, want ...any) {
	t.Helper()
	at := err
	for i := 0; i < len(want); i += 2 {
		f, ok := at.(*api.Fault)
		if !ok || f.Op != want[i] || f.N != want[i+1] {
			t.Errorf("%s: %#v is not %v %v at link %d of %v", what, at, want[i], want[i+1], i/2, err)
			return
		}
		at = f.Err
	}
	if at != error(kind) || !errors.Is(err, kind) {
		t.Errorf("%s: the root of %v is not %v", what, err, kind)
	}
}

// goes asks that a text and a module are one another's.
func goes(t *testing.T, what, s string, m api.Module) {
	t.Helper()
	if got, err := asm.Text(m); got != s || err != nil {
		t.Errorf("%s: told as %.500q, %v, not %.500q", what, got, err, s)
	}
	if got, err := asm.Parse(s); !sameModule(got, m) || err != nil {
		t.Errorf("%s: read as %.500s, %v, not %.500s", what, fmt.Sprintf("%+v", got), err, fmt.Sprintf("%+v", m))
	}
}

// says asks that a text, all of whose lines are right, says this module, be it right or not: then both calls tell vet's chain.
func says(t *testing.T, what, s string, m api.Module) {
	t.Helper()
	why := vet.Module(m)
	if why == nil {
		goes(t, what, s, m)
		return
	}
	want := append([]link{{op: "text"}}, links(why)...)
	got, err := asm.Parse(s)
	if !slices.Equal(links(err), want) || !sameModule(got, api.Module{}) {
		t.Errorf("%s: read as %.200s, %v, not %v", what, fmt.Sprintf("%+v", got), links(err), want)
	}
	told, err := asm.Text(m)
	if !slices.Equal(links(err), want) || told != "" {
		t.Errorf("%s: told as %.200q, %v, not %v", what, told, links(err), want)
	}
}

// wrongLine asks that a text is refused at this line.
func wrongLine(t *testing.T, what, s string, n int) {
	t.Helper()
	m, err := asm.Parse(s)
	wantChain(t, what, err, api.ErrLine, "line", n)
	if !sameModule(m, api.Module{}) {
		t.Errorf("%s: %.200s beside the chain", what, fmt.Sprintf("%+v", m))
	}
}

// wrongText asks that a text, all of whose lines are right, is refused: a Fault "text" around a Fault "module", these links, and a kind.
func wrongText(t *testing.T, what, s string, kind api.Errno, want ...any) {
	t.Helper()
	m, err := asm.Parse(s)
	wantChain(t, what, err, kind, append([]any{"text", 0, "module", 0}, want...)...)
	if !sameModule(m, api.Module{}) {
		t.Errorf("%s: %.200s beside the chain", what, fmt.Sprintf("%+v", m))
	}
}

// wrongModule asks that a module is refused: a Fault "text" around a Fault "module", these links, and a kind.
func wrongModule(t *testing.T, what string, m api.Module, kind api.Errno, want ...any) {
	t.Helper()
	s, err := asm.Text(m)
	wantChain(t, what, err, kind, append([]any{"text", 0, "module", 0}, want...)...)
	if s != "" {
		t.Errorf("%s: %.200q beside the chain", what, s)
	}
}
