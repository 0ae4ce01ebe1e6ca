package tree

import (
	"testing"

	"troupe/api"
)

// P2.5

func TestMake(t *testing.T) {
	deep := tup(list(bin(1, 2), open(atom("e"), num(1))))
	cases := []struct {
		name  string
		items []api.Term
		rest  []api.Term
		want  api.Term
	}{
		{"nothing", nil, nil, none()},
		{"an empty list", []api.Term{}, []api.Term{}, none()},
		{"items", many(3), nil, list(many(3)...)},
		{"items and nil", many(3), []api.Term{none()}, list(many(3)...)},
		{"items and a rest", many(2), []api.Term{atom("a")}, open(atom("a"), many(2)...)},
		{"items and a list", []api.Term{num(7)}, []api.Term{list(many(3)...)}, list(num(7), num(0), num(1), num(2))},
		{"items and a list with a Rest", []api.Term{num(7)}, []api.Term{open(bin(1), num(8))}, open(bin(1), num(7), num(8))},
		{"no items, nil", nil, []api.Term{none()}, none()},
		{"no items, a rest", nil, []api.Term{pid(5)}, pid(5)},
		{"no items, a list", nil, []api.Term{list(num(1))}, list(num(1))},
		{"no items, a list with a Rest", nil, []api.Term{open(num(2), num(1))}, open(num(2), num(1))},
		{"no items, an empty tuple", nil, []api.Term{tup()}, tup()},
		{"more rests: the first", many(1), []api.Term{num(1), num(2), list()}, open(num(1), num(0))},
		{"more rests, one wrong", nil, []api.Term{num(1), {}}, num(1)},
		{"items that are lists", []api.Term{none(), list(num(1))}, []api.Term{tup()}, open(tup(), none(), list(num(1)))},
		{"terms with parts", []api.Term{deep, deep}, []api.Term{deep}, open(deep, deep, deep)},
		{"as many as may be", many(api.MaxTerms - 1), nil, list(many(api.MaxTerms - 1)...)},
		{"as deep as may be", []api.Term{nest(num(1), api.MaxDepth-2)}, nil, list(nest(num(1), api.MaxDepth-2))},
	}
	for _, c := range cases {
		got := Make(c.items, c.rest...)
		if !same(got, c.want) {
			t.Errorf("%s: %+v", c.name, got)
		}
		if err := Right(got); err != nil {
			t.Errorf("%s: %v", c.name, err)
		}
	}
}

// Each item may be, but not the list: it is told as it is, and Right says so.
func TestMakeBeyondTheLimits(t *testing.T) {
	got := Make(many(api.MaxTerms))
	if !same(got, list(many(api.MaxTerms)...)) {
		t.Error("many")
	}
	wantChain(t, "many", Right(got), api.ErrFull, "term", api.MaxTerms)
	got = Make([]api.Term{nest(num(1), api.MaxDepth-1)})
	if !same(got, list(nest(num(1), api.MaxDepth-1))) {
		t.Error("deep")
	}
	wantChain(t, "deep", Right(got), api.ErrFull, "term", api.MaxDepth)
}

func TestMakeOfTermsThatMayNotBe(t *testing.T) {
	for name, x := range wrong() {
		for _, got := range []api.Term{Make([]api.Term{x}), Make(many(3), x), Make(nil, x), Make([]api.Term{num(1), x}, x)} {
			if !same(got, api.Term{}) {
				t.Errorf("%s: %+v", name, got)
			}
		}
	}
}

func TestMakeIsNewMemory(t *testing.T) {
	for i, x := range append(good(), randoms(300, 60)...) {
		items, rest := roomy(tup(x, num(1), x)), roomy(x)
		for _, in := range [][]api.Term{items.Items, items.Items[:1], nil} {
			want := twin(Make(in, rest))
			a, b := Make(in, rest), Make(in, rest)
			ruin(a)
			if !same(b, want) {
				t.Errorf("%d: two answers share memory", i)
			}
			if !same(Make(in, rest), want) || !untouched(items) || !untouched(rest) {
				t.Errorf("%d: an answer shares memory with what was handed in", i)
			}
			spoil(b)
			if !same(b, want) {
				t.Errorf("%d: two lists of an answer share memory", i)
			}
		}
	}
}

// ruin overwrites all lists of a term, spare room too.
func ruin(t api.Term) {
	for _, l := range [][]api.Term{t.Items, t.Rest} {
		for i := range l {
			ruin(l[i])
			l[i] = atom("ruined")
		}
	}
	for i := range t.Bytes {
		t.Bytes[i] ^= 255
	}
	spoil(t)
}
