package code_test

import (
	"bytes"
	"math"
	"slices"
	"strings"
	"testing"

	"troupe/api"
	"troupe/code"
	"troupe/tree"
)

// P9.1: literals.

// lits are the bytes of a module without a name, with these literals and no function.
func lits(terms ...[]byte) []byte {
	b := append([]byte{0x54, 0x52, 0x50, 0x45, 0}, slowNumber(len(terms))...)
	return append(append(b, slices.Concat(terms...)...), 0)
}

// terms are terms of every kind, and their bytes.
func terms() map[string]api.Term {
	return map[string]api.Term{
		"01 00": num(0), "01 0a": num(5), "01 09": num(-5),
		"02 02 6f6b": atom("ok"), "02 01 00": atom("\x00"), "02 03 c3a9ff": atom("\xc3\xa9\xff"),
		"03 00": ref(0), "03 06": ref(3), "04 00": pid(0), "04 80 01": pid(64),
		"05 00": tup(), "05 01 05 00": tup(tup()), "05 02 01 02 02 02 6f6b": tup(num(1), atom("ok")), "05 03 06 06 06": tup(null(), null(), null()),
		"06":             null(),
		"07 01 01 02 00": list(num(1)), "07 02 01 02 01 04 00": list(num(1), num(2)), "07 01 06 00": list(null()), "07 01 07 01 06 00 00": list(list(null())),
		"07 01 01 02 01 01 04": open(num(2), num(1)), "07 01 06 01 08 00": open(bin(), null()), "07 02 06 06 01 02 01 61": open(atom("a"), null(), null()), "07 01 06 01 05 00": open(tup(), null()), "07 01 06 01 03 02": open(ref(1), null()), "07 01 06 01 04 02": open(pid(1), null()),
		"07 01 06 01 05 01 07 01 06 00": open(tup(list(null())), null()), "07 01 07 01 06 01 01 00 01 01 01": open(num(-1), open(num(0), null())),
		"08 00": bin(), "08 01 00": bin(0), "08 03 01ff80": bin(1, 255, 128), "08 04 54525045": bin(0x54, 0x52, 0x50, 0x45),
		"05 05 05 00 07 01 06 00 08 00 06 02 01 61": tup(tup(), list(null()), bin(), null(), atom("a")),
	}
}

func TestEveryKindAsALiteral(t *testing.T) {
	var all [][]byte
	var together []api.Term
	for digits, x := range terms() {
		b := bytesOf(t, digits)
		goes(t, digits, module(x), lits(b))
		goes(t, digits+" thrice", module(x, null(), x, x), lits(b, []byte{6}, b, b))
		goes(t, digits+" in a tuple", module(tup(null(), x, x)), lits(around([]byte{5, 3, 6}, b, b)))
		goes(t, digits+" in a list", module(list(x, null(), x)), lits(around([]byte{7, 3}, b, append(append([]byte{6}, b...), 0))))
		if x.Kind != api.List && x.Kind != api.Nil {
			goes(t, digits+" as Rest", module(open(x, null())), lits(around([]byte{7, 1, 6, 1}, b, nil)))
			goes(t, digits+" as Rest behind a part", module(open(x, x), x), lits(around([]byte{7, 1}, b, append([]byte{1}, b...)), b))
		}
		all, together = append(all, b), append(together, x)
	}
	goes(t, "all", module(together...), lits(all...))
	goes(t, "all in a tuple", module(tup(together...)), lits(around([]byte{5, byte(len(all))}, slices.Concat(all...), nil)))
}

// A kind that is none is wrong where it stands, whatever is behind it.
func TestNoKind(t *testing.T) {
	heads := []string{"01", "02 06", "01 05 01", "01 05 02 06", "01 05 02 05 00", "01 07 01", "01 07 02 06", "01 07 01 06 01", "01 05 01 07 01 06 01", "02 07 01 05 00 00", "01 07 01 05 01", "01 05 02 08 02 09 09", "01 05 02 07 01 06 00", "01 05 02 07 01 06 01 08 00"}
	for _, head := range heads {
		b := append(bytesOf(t, "54525045 00"), bytesOf(t, head)...)
		for kind := range 256 {
			if kind >= api.Int && kind <= api.Bin {
				continue
			}
			for _, tail := range [][]byte{nil, {0}, {0, 0}, {1, 0, 0, 0}, bytes.Repeat([]byte{6}, 40)} {
				refusesBytes(t, head, around(b, []byte{byte(kind)}, tail), len(b))
			}
		}
	}
}

// Where it is told whether a list has a Rest stands 0 or 1.
func TestNoByteForARest(t *testing.T) {
	heads := []string{"01 07 01 06", "01 07 01 05 00", "01 07 02 06 06", "02 06 07 01 06", "01 05 01 07 01 06", "01 07 01 07 01 06 00", "01 07 01 07 01 06", "01 07 01 06 01 05 01 07 01 06", "01 07 00", "01 07 01 07 01 06 01 08 00", "01 07 01 02 00"}
	for _, head := range heads {
		b := append(bytesOf(t, "54525045 00"), bytesOf(t, head)...)
		for n := range 256 {
			if n < 2 {
				continue
			}
			for _, tail := range [][]byte{nil, {0}, {6, 0}, {1, 6, 0, 0, 0}, make([]byte, 40)} {
				refusesBytes(t, head, around(b, []byte{byte(n)}, tail), len(b))
			}
		}
		refusesBytes(t, head+", cut", b, len(b))
	}
}

// wrong are terms that may not be: of these fields, and where tree's Right says so; all of them can be written down as bytes.
func wrong() map[string]api.Term {
	return map[string]api.Term{
		"no name": atom(""), "name 256": atom(strings.Repeat("a", 256)), "long name": atom(strings.Repeat("\x00", 70000)),
		"ref -1": ref(-1), "ref least": ref(math.MinInt64), "ref 2^60": ref(most60 + 1), "ref most": ref(math.MaxInt64),
		"pid -1": pid(-1), "pid least": pid(math.MinInt64), "pid 2^60": pid(most60 + 1), "pid most": pid(math.MaxInt64),
		"no items": list(), "only Rest": open(num(1)), "Rest nil": open(null(), num(1)), "Rest list": open(list(num(1)), num(1)), "Rest list with Rest": open(open(num(3), num(2)), num(1)), "Rest without items": open(list(), num(1)), "no items, Rest nil": open(null()),
		"too deep": nest(null(), api.MaxDepth), "too many": tup(nulls(api.MaxTerms)...), "bytes too many": bin(make([]byte, api.MaxTerms)...),
	}
}

// withFields are terms that may not be for a field that their bytes don't tell.
func withFields() map[string]api.Term {
	one := nulls(1)
	return map[string]api.Term{
		"zero": {}, "kind -1": {Kind: -1}, "kind 9": {Kind: 9}, "kind 257": {Kind: 257}, "least kind": {Kind: math.MinInt}, "most kind": {Kind: math.MaxInt},
		"int with Name": {Kind: api.Int, Name: "a"}, "atom with N": {Kind: api.Atom, Name: "a", N: 1}, "nil with Items": {Kind: api.Nil, Items: one}, "tuple with Rest": {Kind: api.Tuple, Items: one, Rest: one},
		"bin with Items": {Kind: api.Bin, Items: one}, "list with Bytes": {Kind: api.List, Items: one, Bytes: []byte{1}}, "list with N": {Kind: api.List, Items: one, N: -1}, "two Rests": {Kind: api.List, Items: one, Rest: []api.Term{num(1), num(2)}},
	}
}

// partOf is the part at which tree's Right finds a term wrong, and the kind.
func partOf(t *testing.T, x api.Term) (int, api.Errno) {
	t.Helper()
	f, ok := tree.Right(x).(*api.Fault)
	if !ok {
		t.Fatalf("%+v may be", x)
	}
	return f.N, f.Err.(api.Errno)
}

func TestWriteOfLiteralsThatMayNotBe(t *testing.T) {
	all := wrong()
	for name, x := range withFields() {
		all[name] = x
	}
	for name, x := range all {
		part, kind := partOf(t, x)
		refusesWrite(t, name, module(x), 0, kind, "term", part)
		refusesWrite(t, name+" behind others", module(null(), tup(), num(1), x, null()), 3, kind, "term", part)
		refusesWrite(t, name+" ahead of another", module(null(), x, api.Term{}, x), 1, kind, "term", part)
		refusesWrite(t, name+" ahead of a function", api.Module{Lits: []api.Term{num(1), x}, Funcs: wrongFuncs()[:1]}, 1, kind, "term", part)
		y := tup(null(), list(x, null()))
		part, kind = partOf(t, y)
		refusesWrite(t, name+" within", module(bin(1), y), 1, kind, "term", part)
	}
}

// What may not be is told at its first byte, when it is read whole: ahead of all that is wrong behind it, behind all that is wrong in its bytes.
func TestReadOfLiteralsThatMayNotBe(t *testing.T) {
	for name, x := range wrong() {
		for _, y := range []api.Term{x, tup(num(1), x), list(x, atom(""), null()), tup(list(x), x), open(tup(x), null())} {
			b := slowTerm(y)
			part, kind := partOf(t, y)
			refusesTerm(t, name, lits(b), 6, kind, part)
			refusesTerm(t, name+" ahead of another", lits(b, slowTerm(atom("")), b), 6, kind, part)
			refusesTerm(t, name+" behind others", lits([]byte{6}, []byte{1, 128, 1}, b, b), 10, kind, part)
			head := append(bytesOf(t, "54525045 01 00 01"), b...)
			refusesTerm(t, name+", nothing behind it", head, 7, kind, part)
			refusesTerm(t, name+", the worst behind it", append(head, bytes.Repeat([]byte{255}, 30)...), 7, kind, part)
			for _, n := range []int{0, 1, len(b) / 2, len(b) - 1} {
				cut := head[:7+n]
				_, place, chain := slowRead(cut)
				if chain != nil {
					t.Fatalf("%s: cut at %d", name, n)
				}
				refusesBytes(t, name+", cut", cut, place)
			}
			late := lits(slices.Concat([]byte{5, 2}, b, []byte{9}))
			refusesBytes(t, name+", ahead of no kind", late, len(late)-2)
		}
	}
	refusesBytes(t, "no bytes of a second literal", bytesOf(t, "54525045 00 02 06 09"), 7)
	refusesBytes(t, "no bytes ahead of what may not be", bytesOf(t, "54525045 00 02 09 02 00"), 6)
}

// deep are the bytes of n terms one in another: heads, then what is innermost, then tails.
func deep(n int, head, middle, tail []byte) []byte {
	return around(bytes.Repeat(head, n), middle, bytes.Repeat(tail, n))
}

func TestDeepLiterals(t *testing.T) {
	const most = api.MaxDepth
	shapes := map[string]struct {
		head, tail []byte
		nest       func(api.Term) api.Term
	}{
		"tuples":         {[]byte{5, 1}, nil, func(x api.Term) api.Term { return tup(x) }},
		"wide tuples":    {[]byte{5, 3, 6}, []byte{6}, func(x api.Term) api.Term { return tup(null(), x, null()) }},
		"lists":          {[]byte{7, 1}, []byte{0}, func(x api.Term) api.Term { return list(x) }},
		"lists, behind":  {[]byte{7, 2, 6}, []byte{0}, func(x api.Term) api.Term { return list(null(), x) }},
		"open lists":     {[]byte{7, 1}, []byte{1, 8, 0}, func(x api.Term) api.Term { return open(bin(), x) }},
		"tuples as Rest": {[]byte{7, 1, 6, 1, 5, 1}, nil, func(x api.Term) api.Term { return open(tup(x), null()) }},
	}
	for name, s := range shapes {
		each := bytes.Count(s.head, []byte{7}) + bytes.Count(s.head, []byte{5}) // how much deeper one makes
		n := (most - 1) / each
		x := null()
		for range n {
			x = s.nest(x)
		}
		for range most - 1 - n*each {
			x = tup(x)
		}
		goes(t, name+", as deep as may be", module(null(), x), lits([]byte{6}, slowTerm(x)))
		for _, y := range []api.Term{s.nest(x), tup(x), list(x), open(num(1), x)} {
			part, kind := partOf(t, y)
			if kind != api.ErrFull {
				t.Fatalf("%s: %v", name, kind)
			}
			refusesTerm(t, name+", deeper", lits(slowTerm(y)), 6, kind, part)
			refusesWrite(t, name+", deeper", module(null(), y), 1, kind, "term", part)
		}
	}
}

func TestVeryDeepLiterals(t *testing.T) {
	const n, most = 1000000, api.MaxDepth
	cases := []struct {
		name               string
		head, middle, tail []byte
		kind               api.Errno
		part               int
		cut                int // how far ahead of its end it is refused without its last byte
	}{
		{"tuples", []byte{5, 1}, []byte{6}, nil, api.ErrFull, most, 1},
		{"empty tuples", []byte{5, 1}, []byte{5, 0}, nil, api.ErrFull, most, 0},
		{"wide tuples", []byte{5, 2}, []byte{6}, []byte{6}, api.ErrFull, most, 0},
		{"tuples with parts ahead", []byte{5, 2, 6}, []byte{6}, nil, api.ErrFull, 2*most - 1, 2},
		{"lists", []byte{7, 1}, []byte{6}, []byte{0}, api.ErrFull, most, 0},
		{"lists with parts ahead", []byte{7, 2, 6}, []byte{6}, []byte{0}, api.ErrFull, 2*most - 1, 0},
		{"lists with Rests", []byte{7, 1}, []byte{6}, []byte{1, 1, 2}, api.ErrFull, most, 0},
		{"lists with Rests that may not be", []byte{7, 1}, []byte{6}, []byte{1, 6}, api.ErrArg, 0, 0},
		{"lists as Rests", []byte{7, 1, 6, 1}, []byte{6}, nil, api.ErrArg, 0, 0},
		{"tuples as Rests", []byte{7, 1, 6, 1, 5, 1}, []byte{6}, nil, api.ErrFull, 3 * most / 2, 1},
		{"what may not be at the bottom", []byte{5, 1}, []byte{2, 0}, nil, api.ErrFull, most, 0},
	}
	for _, c := range cases {
		b := deep(n, c.head, c.middle, c.tail)
		whole, end := lits(b), 6+len(b)
		refusesTerm(t, c.name, whole, 6, c.kind, c.part)
		refusesTerm(t, c.name+", nothing behind", whole[:end], 6, c.kind, c.part)
		refusesBytes(t, c.name+", cut", whole[:end-1], end-1-c.cut)
	}
	tuples, lists := deep(n, []byte{5, 1}, []byte{9}, nil), deep(n, []byte{7, 1}, []byte{6}, []byte{0})
	refusesBytes(t, "no kind at the bottom", lits(tuples), 6+2*n)
	refusesBytes(t, "no byte for a Rest at the end", lits(lists[:3*n], []byte{2}), 6+3*n)
	refusesTerm(t, "wrong ahead of it", lits(slices.Concat([]byte{5, 2, 3, 1}, lists)), 6, api.ErrArg, 1)
}

func TestLiteralsOfManyParts(t *testing.T) {
	const most = api.MaxTerms
	cases := []struct {
		name string
		x    api.Term
	}{
		{"items, as many as may be", tup(nulls(most - 1)...)},
		{"a list's items", list(nulls(most - 1)...)},
		{"a Rest, as many as may be", open(tup(), nulls(most-2)...)},
		{"bytes, as many as may be", bin(make([]byte, most-1)...)},
		{"bytes in a tuple", tup(bin(make([]byte, most-4)...), null(), null())},
		{"an item too many", tup(nulls(most)...)},
		{"two items too many", list(nulls(most + 1)...)},
		{"a Rest too many", open(tup(), nulls(most-1)...)},
		{"a Rest as the second too many", open(tup(null()), nulls(most)...)},
		{"a Rest that is nil, too many", open(null(), nulls(most-1)...)},
		{"a Rest that is nil, far too many", open(null(), nulls(3*most)...)},
		{"a Rest that is a list, far too many", open(open(num(1), nulls(3)...), nulls(3*most)...)},
		{"a Rest that may be, far too many", open(tup(open(null(), null())), nulls(3*most)...)},
		{"a Rest whose Rest may not be", open(tup(open(null(), null())), nulls(most-4)...)},
		{"far too many", tup(nulls(5 * most)...)},
		{"a part of many, and then another", tup(tup(nulls(most)...), list())},
		{"a list of many, and one that may not be", list(list(nulls(2*most)...), open(null(), null()))},
		{"a list that may not be, of many, in others", tup(null(), list(open(null(), nulls(2*most)...)))},
		{"one that may not be ahead of many", tup(atom(""), tup(nulls(most)...))},
		{"one that may not be behind many", tup(tup(nulls(most-2)...), atom(""))},
		{"the last one that is looked at is a list without items", tup(append(nulls(most-2), list())...)},
		{"the first one too many is a list without items", tup(append(nulls(most-1), list())...)},
		{"the last one that is looked at is a list", tup(append(nulls(most-2), list(nulls(3)...))...)},
		{"the last one that is looked at is a list with a wrong Rest", tup(append(nulls(most-2), open(null(), nulls(3)...))...)},
		{"the first one too many is a list with a wrong Rest", tup(append(nulls(most-1), open(null(), nulls(3)...))...)},
		{"bytes too many", bin(make([]byte, most)...)},
		{"bytes far too many", tup(null(), bin(make([]byte, 5*most)...))},
		{"bytes too many together", tup(bin(make([]byte, most/2)...), bin(make([]byte, most/2)...), list())},
	}
	for _, c := range cases {
		b := lits([]byte{6}, slowTerm(c.x))
		if tree.Right(c.x) == nil {
			goes(t, c.name, module(null(), c.x), b)
			continue
		}
		part, kind := partOf(t, c.x)
		refusesTerm(t, c.name, b, 7, kind, part)
		refusesTerm(t, c.name+", nothing behind it", b[:len(b)-1], 7, kind, part)
		refusesWrite(t, c.name, module(null(), c.x), 1, kind, "term", part)
		cut := b[:len(b)-2]
		if _, place, chain := slowRead(cut); chain == nil {
			refusesBytes(t, c.name+", cut", cut, place)
		} else {
			t.Fatalf("%s: cut", c.name)
		}
	}
}

// Terms that hold themselves are never written.
func TestWriteOfTermsThatHoldThemselves(t *testing.T) {
	for _, kind := range []int{api.Tuple, api.List} {
		items := make([]api.Term, 2)
		x := api.Term{Kind: kind, Items: items}
		items[0], items[1] = num(1), x
		refusesWrite(t, "a ring", module(null(), x), 1, api.ErrFull, "term", 2*(api.MaxDepth-1)+1)
	}
	x := null()
	for range 190 {
		x = tup(x, x)
	}
	refusesWrite(t, "a thicket", module(x), 0, api.ErrFull, "term", api.MaxTerms)
}

// Literals may be ever so many, and share one another's memory.
func TestManyLiterals(t *testing.T) {
	x := list(tup(nulls(5)...), bin(1, 2), open(atom("a"), num(-1)))
	m := module(slices.Repeat([]api.Term{x}, 2*api.MaxTerms)...)
	if back, err := code.Read(written(t, m)); !sameModule(m, back) || err != nil {
		t.Errorf("%v", err)
	}
}
