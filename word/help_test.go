package word

import (
	"bytes"
	"errors"
	"slices"
	"strconv"
	"testing"

	"troupe/api"
	"troupe/fault"
)

func num(n int64) api.Term            { return api.Term{Kind: api.Int, N: n} }
func name(s string) api.Term          { return api.Term{Kind: api.Atom, Name: s} }
func ref(n int64) api.Term            { return api.Term{Kind: api.Ref, N: n} }
func pid(n int64) api.Term            { return api.Term{Kind: api.Pid, N: n} }
func empty() api.Term                 { return api.Term{Kind: api.Nil} }
func tup(items ...api.Term) api.Term  { return api.Term{Kind: api.Tuple, Items: items} }
func list(items ...api.Term) api.Term { return api.Term{Kind: api.List, Items: items} }
func bin(b ...byte) api.Term          { return api.Term{Kind: api.Bin, Bytes: b} }

// same tells whether two terms are the same in each field; nil and empty lists are one.
func same(a, b api.Term) bool {
	return a.Kind == b.Kind && a.N == b.N && a.Name == b.Name && bytes.Equal(a.Bytes, b.Bytes) &&
		slices.EqualFunc(a.Items, b.Items, same) && slices.EqualFunc(a.Rest, b.Rest, same)
}

// names are so many names, no two the same.
func names(n int) []string {
	var list []string
	for i := range n {
		list = append(list, "a"+strconv.Itoa(i))
	}
	return list
}

// table has these names, from 0 on.
func table(t *testing.T, names ...string) *Atoms {
	t.Helper()
	a := NewAtoms()
	for i, s := range names {
		isNumber(t, a, s, i)
	}
	isTable(t, a, names...)
	return a
}

// isNumber asks for a name's number.
func isNumber(t *testing.T, a *Atoms, s string, want int) {
	t.Helper()
	if n, err := a.Number(s); n != want || err != nil {
		t.Fatalf("Number(%q): %d, not %d: %v", s, n, want, err)
	}
}

// isTable asks for all names of a table, and for those before and behind them.
func isTable(t *testing.T, a *Atoms, names ...string) {
	t.Helper()
	if a.Len() != len(names) {
		t.Fatalf("Len: %d, not %d", a.Len(), len(names))
	}
	for i, want := range names {
		if s, err := a.Name(i); s != want || err != nil {
			t.Fatalf("Name(%d): %q, not %q: %v", i, s, want, err)
		}
	}
	for _, n := range []int{-1, len(names)} {
		s, err := a.Name(n)
		if s != "" {
			t.Fatalf("Name(%d): %q", n, s)
		}
		refused(t, err, api.ErrNone, link{"atom", n})
	}
}

// noNumber asks for a number that must be refused.
func noNumber(t *testing.T, a *Atoms, s string, kind api.Errno) {
	t.Helper()
	n, err := a.Number(s)
	if n != -1 {
		t.Fatalf("Number(%q): %d", s, n)
	}
	refused(t, err, kind, link{"atom", len(s)})
}

// isSmall asks for a term's word, and for the term of that word.
func isSmall(t *testing.T, a *Atoms, x api.Term, want uint64) {
	t.Helper()
	w, ok, err := Small(x, a)
	if w != want || !ok || err != nil {
		t.Fatalf("Small(%v): %#x, not %#x, %v, %v", x, w, want, ok, err)
	}
	isPlain(t, a, w, x)
}

// isPlain asks for a word's term.
func isPlain(t *testing.T, a *Atoms, w uint64, want api.Term) {
	t.Helper()
	x, ok, err := Plain(w, a)
	if !same(x, want) || !ok || err != nil {
		t.Fatalf("Plain(%#x): %v, not %v, %v, %v", w, x, want, ok, err)
	}
}

// noWord asks for the word of a term that has none.
func noWord(t *testing.T, a *Atoms, x api.Term) error {
	t.Helper()
	w, ok, err := Small(x, a)
	if w != 0 || ok {
		t.Fatalf("Small of kind %d: %#x, %v", x.Kind, w, ok)
	}
	return err
}

// noTerm asks for the term of a word that has none.
func noTerm(t *testing.T, a *Atoms, w uint64) error {
	t.Helper()
	x, ok, err := Plain(w, a)
	if !same(x, api.Term{}) || ok {
		t.Fatalf("Plain(%#x): %v, %v", w, x, ok)
	}
	return err
}

// link is one Fault of a chain.
type link struct {
	op string
	n  int
}

// refused asks for a chain: these Faults, the outermost first, around this root.
func refused(t *testing.T, err error, root api.Errno, links ...link) {
	t.Helper()
	whole := err
	for _, l := range links {
		var f *api.Fault
		if !errors.As(err, &f) || err != error(f) || f.Op != l.op || f.N != l.n {
			t.Fatalf("%v: no Fault %q of %d there", whole, l.op, l.n)
		}
		err = f.Err
	}
	if err != error(root) || fault.Kind(whole) != root {
		t.Fatalf("%v: the root is not %v", whole, root)
	}
}
