package code_test

import (
	"bytes"
	"encoding/hex"
	"errors"
	"fmt"
	"slices"
	"strings"
	"testing"

	"troupe/api"
	"troupe/code"
)

const (
	most40 = 1 << 40
	most39 = 1 << 39
	most60 = 1<<60 - 1
)

func num(n int64) api.Term            { return api.Term{Kind: api.Int, N: n} }
func atom(s string) api.Term          { return api.Term{Kind: api.Atom, Name: s} }
func ref(n int64) api.Term            { return api.Term{Kind: api.Ref, N: n} }
func pid(n int64) api.Term            { return api.Term{Kind: api.Pid, N: n} }
func tup(items ...api.Term) api.Term  { return api.Term{Kind: api.Tuple, Items: items} }
func null() api.Term                  { return api.Term{Kind: api.Nil} }
func list(items ...api.Term) api.Term { return api.Term{Kind: api.List, Items: items} }
func bin(b ...byte) api.Term          { return api.Term{Kind: api.Bin, Bytes: b} }

func open(rest api.Term, items ...api.Term) api.Term {
	return api.Term{Kind: api.List, Items: items, Rest: []api.Term{rest}}
}

// nest lays a term into n tuples, one in another.
func nest(t api.Term, n int) api.Term {
	for range n {
		t = tup(t)
	}
	return t
}

// nulls are n times the term nil.
func nulls(n int) []api.Term { return slices.Repeat([]api.Term{null()}, n) }

func module(lits ...api.Term) api.Module { return api.Module{Lits: lits} }

// numbered is a module of one function, of no name, with these numbers and instructions.
func numbered(args, slots int, ins ...api.Ins) api.Module {
	return api.Module{Funcs: []api.Func{{Args: args, Slots: slots, Code: ins}}}
}

// same tells whether two terms are the same in each field; nil and empty lists are one.
func same(a, b api.Term) bool {
	return a.Kind == b.Kind && a.N == b.N && a.Name == b.Name && bytes.Equal(a.Bytes, b.Bytes) &&
		slices.EqualFunc(a.Items, b.Items, same) && slices.EqualFunc(a.Rest, b.Rest, same)
}

func sameFunc(a, b api.Func) bool {
	return a.Name == b.Name && a.Args == b.Args && a.Slots == b.Slots && slices.Equal(a.Code, b.Code)
}

// sameModule tells whether two modules are the same in each field.
func sameModule(a, b api.Module) bool {
	return a.Name == b.Name && slices.EqualFunc(a.Lits, b.Lits, same) && slices.EqualFunc(a.Funcs, b.Funcs, sameFunc)
}

// text is what a module holds.
func text(m api.Module) string { return fmt.Sprintf("%+v", m) }

// bytesOf are the bytes of hexadecimal digits. (Blanks are left out.)
func bytesOf(t *testing.T, digits string) []byte {
	t.Helper()
	b, err := hex.DecodeString(strings.ReplaceAll(digits, " ", ""))
	if err != nil {
		t.Fatalf("%s: %v", digits, err)
	}
	return b
}

// written are a module's bytes.
func written(t *testing.T, m api.Module) []byte {
	t.Helper()
	b, err := code.Write(m)
	if err != nil {
		t.Fatalf("write: %v", err)
	}
	return b
}

// goes asks that a module is written as these bytes, and read from them.
func goes(t *testing.T, what string, m api.Module, b []byte) {
	t.Helper()
	if got, err := code.Write(m); !bytes.Equal(got, b) || err != nil {
		t.Errorf("%s: written as %.99x, %v, not %.99x", what, got, err, b)
	}
	if got, err := code.Read(b); !sameModule(got, m) || err != nil {
		t.Errorf("%s: read as %.999s, %v, not %.999s", what, text(got), err, text(m))
	}
}

// wantChain looks at each link of a chain: Faults of these Ops and Ns, around a kind, and nothing else.
func wantChain(t *testing.T, what string, err error, kind api.Errno, links ...any) {
	t.Helper()
	at := err
	for i := 0; i < len(links); i += 2 {
		f, ok := at.(*api.Fault)
		if !ok || f.Op != links[i] || f.N != links[i+1] {
			t.Errorf("%s: %#v is not %v %v at link %d of %v", what, at, links[i], links[i+1], i/2, err)
			return
		}
		at = f.Err
	}
	if at != error(kind) || !errors.Is(err, kind) {
		t.Errorf("%s: the root of %v is not %v", what, err, kind)
	}
}

// refusesBytes asks that bytes are none of a module, wrong at this place.
func refusesBytes(t *testing.T, what string, b []byte, place int) {
	t.Helper()
	m, err := code.Read(b)
	wantChain(t, what, err, api.ErrBytes, "read", place)
	if !sameModule(m, api.Module{}) {
		t.Errorf("%s: %.999s beside the chain", what, text(m))
	}
}

// refusesTerm asks that bytes have a literal that may not be, at this place, wrong at this part.
func refusesTerm(t *testing.T, what string, b []byte, place int, kind api.Errno, part int) {
	t.Helper()
	m, err := code.Read(b)
	wantChain(t, what, err, kind, "read", place, "term", part)
	if !sameModule(m, api.Module{}) {
		t.Errorf("%s: %.999s beside the chain", what, text(m))
	}
}

// refusesWrite asks that a module is not written: a Fault "write" (N place) around these links, and a kind.
func refusesWrite(t *testing.T, what string, m api.Module, place int, kind api.Errno, links ...any) {
	t.Helper()
	b, err := code.Write(m)
	wantChain(t, what, err, kind, append([]any{"write", place}, links...)...)
	if len(b) != 0 {
		t.Errorf("%s: %.99x beside the chain", what, b)
	}
}
