package tree

import (
	"bytes"
	"errors"
	"math"
	"math/rand"
	"slices"
	"strings"
	"testing"

	"troupe/api"
)

const most60 = 1<<60 - 1

func num(n int64) api.Term           { return api.Term{Kind: api.Int, N: n} }
func atom(s string) api.Term         { return api.Term{Kind: api.Atom, Name: s} }
func ref(n int64) api.Term           { return api.Term{Kind: api.Ref, N: n} }
func pid(n int64) api.Term           { return api.Term{Kind: api.Pid, N: n} }
func tup(items ...api.Term) api.Term { return api.Term{Kind: api.Tuple, Items: items} }
func none() api.Term                 { return api.Term{Kind: api.Nil} }
func bin(b ...byte) api.Term         { return api.Term{Kind: api.Bin, Bytes: b} }

func list(items ...api.Term) api.Term { return api.Term{Kind: api.List, Items: items} }

func open(rest api.Term, items ...api.Term) api.Term {
	return api.Term{Kind: api.List, Items: items, Rest: []api.Term{rest}}
}

// nest lays a term into n tuples, one in another.
func nest(t api.Term, n int) api.Term {
	for range n {
		t = tup(t)
	}
	return t
}

// many are n numbers: 0, 1, 2 ..
func many(n int) []api.Term {
	var items []api.Term
	for i := range n {
		items = append(items, num(int64(i)))
	}
	return items
}

// ring is a term that holds itself.
func ring(kind int) api.Term {
	items := make([]api.Term, 2)
	t := api.Term{Kind: kind, Items: items}
	items[0], items[1] = num(1), t
	return t
}

// thicket is a small term that has 2^n parts and more, shared by one another.
func thicket(n int) api.Term {
	t := num(1)
	for range n {
		t = tup(t, t)
	}
	return t
}

// same tells whether two terms are the same in each field; nil and empty lists are one.
func same(a, b api.Term) bool {
	return a.Kind == b.Kind && a.N == b.N && a.Name == b.Name && bytes.Equal(a.Bytes, b.Bytes) &&
		slices.EqualFunc(a.Items, b.Items, same) && slices.EqualFunc(a.Rest, b.Rest, same)
}

// twin is the same term in other memory.
func twin(t api.Term) api.Term {
	twins := func(from []api.Term) []api.Term {
		var to []api.Term
		for _, x := range from {
			to = append(to, twin(x))
		}
		return to
	}
	t.Items, t.Rest, t.Bytes = twins(t.Items), twins(t.Rest), slices.Clone(t.Bytes)
	return t
}

// spoil overwrites the spare room of all lists of a term.
func spoil(t api.Term) {
	for _, l := range [][]api.Term{t.Items, t.Rest} {
		for i := range l[len(l):cap(l)] {
			l[len(l):cap(l)][i] = atom("spoilt")
		}
		for _, x := range l {
			spoil(x)
		}
	}
	for i := range t.Bytes[len(t.Bytes):cap(t.Bytes)] {
		t.Bytes[len(t.Bytes):cap(t.Bytes)][i] = 77
	}
}

// roomy is the same term, each of its lists with spare room that holds a mark.
func roomy(t api.Term) api.Term {
	room := func(from []api.Term) []api.Term {
		to := make([]api.Term, len(from)+3)
		for i := range to {
			to[i] = atom("room")
		}
		for i, x := range from {
			to[i] = roomy(x)
		}
		return to[:len(from)]
	}
	spare := append(slices.Clone(t.Bytes), 9, 9, 9)
	t.Items, t.Rest, t.Bytes = room(t.Items), room(t.Rest), spare[:len(t.Bytes)]
	return t
}

// untouched tells whether the spare room of all lists of a roomy term is as it was.
func untouched(t api.Term) bool {
	for _, l := range [][]api.Term{t.Items, t.Rest} {
		for _, x := range l[len(l):cap(l)] {
			if !same(x, atom("room")) {
				return false
			}
		}
		if !slices.ContainsFunc(l, func(x api.Term) bool { return !untouched(x) }) {
			continue
		}
		return false
	}
	return bytes.Equal(t.Bytes[len(t.Bytes):len(t.Bytes)+3], []byte{9, 9, 9})
}

// wantChain looks at each link of a chain: Faults of these Ops and Ns, around a kind, and nothing else.
func wantChain(t *testing.T, what string, err error, kind api.Errno, links ...any) {
	t.Helper()
	at := err
	for i := 0; i < len(links); i += 2 {
		f, ok := at.(*api.Fault)
		if !ok || f.Op != links[i] || f.N != links[i+1] {
			t.Errorf("%s: %v is not %v %v at link %d of %v", what, at, links[i], links[i+1], i/2, err)
			return
		}
		at = f.Err
	}
	if at != error(kind) || !errors.Is(err, kind) {
		t.Errorf("%s: the root of %v is not %v", what, err, kind)
	}
}

// good are terms that may be, rising.
func good() []api.Term {
	long := strings.Repeat("z", 255)
	return []api.Term{
		num(math.MinInt64), num(math.MinInt64 + 1), num(-most60 - 2), num(-most60 - 1), num(-10), num(-1), num(0), num(1), num(9), num(10), num(most60), num(most60 + 1), num(math.MaxInt64 - 1), num(math.MaxInt64),
		atom("\x00"), atom("\x00\x00"), atom("\x1f"), atom(" "), atom("'"), atom("0"), atom("9a"), atom("A"), atom("\\"), atom("_"), atom("_a"), atom("a"), atom("a b"), atom("a'\\b"), atom("a0"), atom("aA"), atom("a_"), atom("aa"), atom("b"), atom("~"), atom("\x7f"), atom("\x80"), atom("é"), atom("\xff"), atom("\xff" + long[1:]),
		ref(0), ref(1), ref(most60 - 1), ref(most60),
		pid(0), pid(1), pid(64), pid(most60),
		tup(), tup(num(2)), tup(atom("a")), tup(bin()), tup(num(0), bin(255)), tup(num(1), num(1)), tup(num(1), num(2)), tup(none(), num(1)), tup(list(num(1)), num(0)), tup(num(0), num(0), num(0)), tup(many(300)...),
		none(),
		list(num(1)), list(num(1), list(num(1))), list(num(1), bin()), open(bin(), num(1)),
		open(num(1), num(2)), open(num(2), num(2)), open(atom("a"), num(2)), open(ref(0), num(2)), open(pid(0), num(2)), open(tup(none(), none()), num(2)), list(num(2)),
		open(num(0), num(2), num(0)), list(num(2), num(0)), list(num(2), num(0), num(0)), open(bin(), num(2)), open(bin(1), num(2)),
		list(atom("a")), list(tup()), list(none()), list(none(), none()), list(list(num(1))), open(bin(), bin()),
		bin(), bin(0), bin(0, 0), bin(0, 255), bin(1), bin(1, 0), bin(255), bin(255, 0, 0),
	}
}

// random is a term that may be, of at most some n parts.
func random(r *rand.Rand, n int) api.Term {
	part := func() api.Term { return random(r, n/3) }
	kind := r.Intn(12)
	if n < 3 {
		kind = r.Intn(7)
	}
	switch kind {
	case 0:
		return num(int64(r.Intn(5)) - 2)
	case 1:
		return num(int64(r.Uint64()))
	case 2:
		names := []string{"a", "b", "ok", "a_1", "A", "é", "\n", "it's", "\\x41", string([]byte{byte(r.Intn(256))})}
		return atom(names[r.Intn(len(names))])
	case 3:
		return ref(int64(r.Intn(3)))
	case 4:
		return pid(int64(r.Uint64()) & most60)
	case 5:
		return none()
	case 6:
		b := make([]byte, r.Intn(4))
		for i := range b {
			b[i] = byte(r.Intn(256))
		}
		return bin(b...)
	case 7, 8:
		t := tup()
		for range r.Intn(4) {
			t.Items = append(t.Items, part())
		}
		return t
	default:
		t := list(part())
		for range r.Intn(3) {
			t.Items = append(t.Items, part())
		}
		if rest := part(); kind == 11 && rest.Kind != api.List && rest.Kind != api.Nil {
			t.Rest = []api.Term{rest}
		}
		return t
	}
}

// randoms are so many terms, the same ones each time.
func randoms(n, size int) []api.Term {
	r := rand.New(rand.NewSource(7))
	var ts []api.Term
	for range n {
		ts = append(ts, random(r, size))
	}
	return ts
}
