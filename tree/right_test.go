package tree

import (
	"math"
	"strings"
	"testing"

	"troupe/api"
)

// P2.1

func TestRightTerms(t *testing.T) {
	terms := append(good(),
		api.Term{Kind: api.Tuple, Items: []api.Term{}, Rest: []api.Term{}, Bytes: []byte{}},
		api.Term{Kind: api.Nil, Items: []api.Term{}, Rest: []api.Term{}, Bytes: []byte{}},
		api.Term{Kind: api.Int, N: 3, Items: []api.Term{}, Rest: []api.Term{}, Bytes: []byte{}},
		api.Term{Kind: api.List, Items: many(2), Rest: []api.Term{}, Bytes: []byte{}},
		nest(num(1), api.MaxDepth-1), nest(tup(), api.MaxDepth-1),
		tup(many(api.MaxTerms-1)...), list(many(api.MaxTerms-1)...), open(num(1), many(api.MaxTerms-2)...),
		bin(make([]byte, api.MaxTerms-1)...), tup(bin(make([]byte, api.MaxTerms-2)...)),
		tup(bin(make([]byte, 1000)...), list(many(api.MaxTerms-1003)...)),
		thicket(15), atom(strings.Repeat("\xff", 255)))
	for i, x := range terms {
		if err := Right(x); err != nil {
			t.Errorf("%d: %v", i, err)
		}
	}
	for i, x := range randoms(2000, 100) {
		if err := Right(x); err != nil {
			t.Errorf("%d: %v", i, err)
		}
	}
}

// wrong are terms that may not be for a field of their own, or of their Rest's.
func wrong() map[string]api.Term {
	one := []api.Term{num(1)}
	m := map[string]api.Term{
		"zero":       {},
		"kind -1":    {Kind: -1},
		"kind 9":     {Kind: 9},
		"least kind": {Kind: math.MinInt},
		"most kind":  {Kind: math.MaxInt, N: 1},
		"kind 0, N":  {N: 1},
		"ref -1":     ref(-1),
		"ref 2^60":   ref(most60 + 1),
		"ref least":  ref(math.MinInt64),
		"ref most":   ref(math.MaxInt64),
		"pid -1":     pid(-1),
		"pid 2^60":   pid(most60 + 1),
		"pid least":  pid(math.MinInt64),
		"no name":    atom(""),
		"name 256":   atom(strings.Repeat("a", 256)),
		"long name":  atom(strings.Repeat("a", 100000)),
		"no items":   list(),
		"only Rest":  open(num(1)),
		"Rest nil":   open(none(), num(1)),
		"Rest list":  open(list(num(1)), num(1)),
		"two Rests":  {Kind: api.List, Items: one, Rest: many(2)},
		"bad items":  {Kind: api.List, Items: []api.Term{{}}, Rest: many(2)},
		"Rest wrong": {Kind: api.List, Items: one, Rest: []api.Term{{Kind: api.List}}},
	}
	kinds := map[string]api.Term{"int": num(5), "atom": atom("a"), "ref": ref(1), "pid": pid(1), "tuple": tup(num(1)), "nil": none(), "list": list(num(1)), "bin": bin(1)}
	for name, x := range kinds {
		if x.Kind == api.Tuple || x.Kind == api.Nil || x.Kind == api.List || x.Kind == api.Atom || x.Kind == api.Bin {
			m[name+" with N"], m[name+" with N below 0"] = with(x, func(x *api.Term) { x.N = 1 }), with(x, func(x *api.Term) { x.N = -1 })
		}
		if x.Kind != api.Atom {
			m[name+" with Name"] = with(x, func(x *api.Term) { x.Name = "a" })
		}
		if x.Kind != api.Tuple && x.Kind != api.List {
			m[name+" with Items"] = with(x, func(x *api.Term) { x.Items = one })
		}
		if x.Kind != api.List {
			m[name+" with Rest"] = with(x, func(x *api.Term) { x.Rest = one })
		}
		if x.Kind != api.Bin {
			m[name+" with Bytes"] = with(x, func(x *api.Term) { x.Bytes = []byte{0} })
		}
	}
	return m
}

func with(x api.Term, turn func(*api.Term)) api.Term {
	turn(&x)
	return x
}

func TestWrongTerms(t *testing.T) {
	for name, x := range wrong() {
		wantChain(t, name, Right(x), api.ErrArg, "term", 0)
		wantChain(t, name+" as item", Right(tup(num(1), x)), api.ErrArg, "term", 2)
		wantChain(t, name+" as a list's item", Right(open(num(1), list(num(7)), x)), api.ErrArg, "term", 3)
		if x.Kind != api.List && x.Kind != api.Nil {
			wantChain(t, name+" as Rest", Right(open(x, num(1), num(2))), api.ErrArg, "term", 3)
		}
	}
}

func TestTheFirstPartThatIsWrong(t *testing.T) {
	bad := api.Term{}
	cases := []struct {
		name string
		x    api.Term
		n    int
	}{
		{"the first of two", tup(num(1), bad, bad), 2},
		{"a term ahead of its parts", with(tup(bad), func(x *api.Term) { x.N = 1 }), 0},
		{"bytes are not counted", tup(bin(1, 2, 3), bad), 2},
		{"parts of parts come ahead", tup(list(tup(num(1)), num(2)), atom("a"), bad), 6},
		{"items ahead of Rest", open(ref(-1), num(1), tup(bad)), 3},
		{"the Rest's parts", open(tup(num(1), bad), num(1)), 4},
		{"behind a Rest", tup(open(num(1), num(2)), bad), 4},
		{"a wrong Rest at the list, ahead of its items", tup(num(1), open(none(), bad)), 2},
		{"two Rests at the list", tup(num(1), api.Term{Kind: api.List, Items: []api.Term{bad}, Rest: []api.Term{bad, bad}}), 2},
	}
	for _, c := range cases {
		wantChain(t, c.name, Right(c.x), api.ErrArg, "term", c.n)
	}
}

func TestTooDeep(t *testing.T) {
	cases := []struct {
		name string
		x    api.Term
		n    int
	}{
		{"one too deep", nest(num(1), api.MaxDepth), api.MaxDepth},
		{"an empty tuple too deep", nest(tup(), api.MaxDepth), api.MaxDepth},
		{"far too deep", nest(num(1), 100000), api.MaxDepth},
		{"too deep ahead of what is wrong there", nest(api.Term{}, api.MaxDepth), api.MaxDepth},
		{"too deep, its list without items", nest(list(), api.MaxDepth), api.MaxDepth},
		{"behind others", tup(num(1), list(num(1), num(2)), nest(num(1), api.MaxDepth-1)), 5 + api.MaxDepth - 1},
		{"a Rest too deep", nest(open(num(1), num(2)), api.MaxDepth-1), api.MaxDepth},
		{"only the Rest too deep", nest(open(tup(num(1)), num(2)), api.MaxDepth-2), api.MaxDepth + 1},
	}
	for _, c := range cases {
		wantChain(t, c.name, Right(c.x), api.ErrFull, "term", c.n)
	}
	wantChain(t, "wrong ahead of too deep", Right(tup(api.Term{}, nest(num(1), 300))), api.ErrArg, "term", 1)
	wantChain(t, "wrong at the greatest depth", Right(nest(api.Term{}, api.MaxDepth-1)), api.ErrArg, "term", api.MaxDepth-1)
}

func TestTooManyParts(t *testing.T) {
	const most = api.MaxTerms
	cases := []struct {
		name string
		x    api.Term
		n    int
	}{
		{"one item too many", tup(many(most)...), most},
		{"many items too many", list(many(2 * most)...), most},
		{"the Rest too many", open(num(1), many(most-1)...), most},
		{"one byte too many", bin(make([]byte, most)...), 0},
		{"bytes in an item", tup(num(1), bin(make([]byte, most-2)...)), 2},
		{"bytes ahead count", tup(bin(make([]byte, most-3)...), num(1), num(2)), 3},
		{"a bin that has just one part more", tup(bin(make([]byte, most-2)...), bin()), 2},
		{"too many ahead of what is wrong there", tup(append(many(most-1), api.Term{})...), most},
		{"too many bytes ahead of what is wrong there", with(bin(make([]byte, most)...), func(x *api.Term) { x.N = 1 }), 0},
		{"shared parts count each time", thicket(16), most},
	}
	for _, c := range cases {
		wantChain(t, c.name, Right(c.x), api.ErrFull, "term", c.n)
	}
	wantChain(t, "the last part that may be is wrong", Right(tup(append(many(most-2), api.Term{})...)), api.ErrArg, "term", most-1)
	wantChain(t, "wrong ahead of too many", Right(tup(append([]api.Term{{}}, many(most)...)...)), api.ErrArg, "term", 1)
}

// R1, R3

func TestTermsThatHoldThemselves(t *testing.T) {
	for name, x := range map[string]api.Term{"tuple": ring(api.Tuple), "list": ring(api.List), "thicket": thicket(190), "a deep one": nest(num(1), 1000000)} {
		if err := Right(x); err == nil {
			t.Errorf("%s: right", name)
		}
		if Words(x) != 0 {
			t.Errorf("%s: words", name)
		}
		if s, err := Write(x); s != "" || err == nil {
			t.Errorf("%s: written", name)
		}
		Make([]api.Term{x}, x)
		for _, y := range []api.Term{x, twin(ring3()), num(1), {}} {
			for _, c := range []int{Compare(x, y), Compare(y, x)} {
				if c < -1 || c > 1 || Equal(x, y) != (Compare(x, y) == 0) {
					t.Errorf("%s: %d", name, c)
				}
			}
		}
	}
	wantChain(t, "a ring", Right(ring(api.Tuple)), api.ErrFull, "term", 2*(api.MaxDepth-1)+1)
}

// ring3 is the beginning of a ring.
func ring3() api.Term { return tup(num(1), tup(num(1), tup(num(1), tup()))) }

func TestWhatIsHandedInIsNotTurned(t *testing.T) {
	terms := append(good(), randoms(200, 60)...)
	for i, x := range terms {
		y := terms[(i+1)%len(terms)]
		a, b := roomy(x), roomy(y)
		items := roomy(tup(x, y))
		Right(a)
		Words(a)
		Compare(a, b)
		Equal(a, b)
		if _, err := Write(a); err != nil {
			t.Errorf("%d: %v", i, err)
		}
		Make(items.Items, a)
		Make(items.Items, b, a)
		Make(nil, a)
		if !same(a, x) || !same(b, y) || !same(items, tup(x, y)) || !untouched(a) || !untouched(b) || !untouched(items) {
			t.Errorf("%d: turned", i)
		}
	}
}
