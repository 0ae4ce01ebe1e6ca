package bif_test

import (
	"bytes"
	"errors"
	"slices"
	"testing"

	"troupe/api"
	"troupe/bif"
	"troupe/fault"
	"troupe/tree"
)

const (
	badarg   = "badarg"
	badarith = "badarith"
	undef    = "undef"
)

func num(n int64) api.Term            { return api.Term{Kind: api.Int, N: n} }
func atom(s string) api.Term          { return api.Term{Kind: api.Atom, Name: s} }
func tup(items ...api.Term) api.Term  { return api.Term{Kind: api.Tuple, Items: items} }
func list(items ...api.Term) api.Term { return api.Term{Kind: api.List, Items: items} }
func bin(b ...byte) api.Term          { return api.Term{Kind: api.Bin, Bytes: b} }
func null() api.Term                  { return api.Term{Kind: api.Nil} }

func open(rest api.Term, items ...api.Term) api.Term {
	return api.Term{Kind: api.List, Items: items, Rest: []api.Term{rest}}
}

// nest lays a term into n tuples, one in another.
func nest(t api.Term, n int) api.Term {
	for range n {
		t = tup(t)
	}
	return t
}

// many are n times the number 1.
func many(n int) []api.Term { return slices.Repeat([]api.Term{num(1)}, n) }

// term is the term of a text.
func term(t *testing.T, text string) api.Term {
	t.Helper()
	x, err := tree.Parse(text)
	if err != nil {
		t.Fatalf("%s: %v", text, err)
	}
	return x
}

// terms are the terms of texts.
func terms(t *testing.T, texts ...string) []api.Term {
	t.Helper()
	var ts []api.Term
	for _, text := range texts {
		ts = append(ts, term(t, text))
	}
	return ts
}

// same tells whether two terms are the same in each field; nil and empty lists are one.
func same(a, b api.Term) bool {
	return a.Kind == b.Kind && a.N == b.N && a.Name == b.Name && bytes.Equal(a.Bytes, b.Bytes) &&
		slices.EqualFunc(a.Items, b.Items, same) && slices.EqualFunc(a.Rest, b.Rest, same)
}

// twin is the same term in other memory.
func twin(t api.Term) api.Term {
	t.Items, t.Rest, t.Bytes = twins(t.Items), twins(t.Rest), slices.Clone(t.Bytes)
	return t
}

func twins(from []api.Term) []api.Term {
	var to []api.Term
	for _, x := range from {
		to = append(to, twin(x))
	}
	return to
}

// number is a function's number.
func number(t *testing.T, name string) int {
	t.Helper()
	n := bif.Number(name)
	if n < 0 {
		t.Fatalf("no function %s", name)
	}
	return n
}

// answers is what a function answers that does not go wrong.
func answers(t *testing.T, name string, args ...api.Term) api.Term {
	t.Helper()
	x, reason, err := bif.Do(number(t, name), args...)
	if reason != "" || err != nil {
		t.Fatalf("%s: %q, %v", name, reason, err)
	}
	if err := tree.Right(x); err != nil {
		t.Fatalf("%s: %v", name, err)
	}
	return x
}

// says asks for the text of an answer, by the texts of the arguments.
func says(t *testing.T, want, name string, args ...string) {
	t.Helper()
	text, err := tree.Write(answers(t, name, terms(t, args...)...))
	if text != want || err != nil {
		t.Errorf("%s %q: %s, not %s", name, args, text, want)
	}
}

// raisesOf asks for a reason, and nothing beside it.
func raisesOf(t *testing.T, reason string, n int, args ...api.Term) {
	t.Helper()
	x, got, err := bif.Do(n, args...)
	if got != reason || err != nil || !same(x, api.Term{}) {
		t.Errorf("%d of %d: %q, %v, %+v, not %s", n, len(args), got, err, x, reason)
	}
}

// raises asks for a reason, by the texts of the arguments.
func raises(t *testing.T, reason, name string, args ...string) {
	t.Helper()
	x, got, err := bif.Do(number(t, name), terms(t, args...)...)
	if got != reason || err != nil || !same(x, api.Term{}) {
		t.Errorf("%s %q: %q, %v, %+v, not %s", name, args, got, err, x, reason)
	}
}

// refuses asks for a chain, and nothing beside it: a Fault "bif" (N the function), a Fault "term" (N part), and a kind.
func refuses(t *testing.T, kind api.Errno, part, n int, args ...api.Term) {
	t.Helper()
	x, reason, err := bif.Do(n, args...)
	if reason != "" || !same(x, api.Term{}) {
		t.Errorf("%d: %q, %+v beside the chain", n, reason, x)
	}
	var outer, inner *api.Fault
	if !errors.As(err, &outer) || err != error(outer) || outer.Op != "bif" || outer.N != n {
		t.Fatalf("%d: %v is no Fault bif", n, err)
	}
	if !errors.As(outer.Err, &inner) || outer.Err != error(inner) || inner.Op != "term" || inner.N != part {
		t.Fatalf("%d: %v is not of part %d", n, err, part)
	}
	if inner.Err != error(kind) || fault.Kind(err) != kind {
		t.Fatalf("%d: %v is not of %v", n, err, kind)
	}
}
