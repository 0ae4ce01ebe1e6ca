package tree

import (
	"bytes"
	"cmp"
	"math"
	"slices"
	"strings"
	"testing"

	"troupe/api"
)

// P2.2

func TestCompareEachWithEach(t *testing.T) {
	terms := good()
	for i, a := range terms {
		for j, b := range terms {
			b = twin(b)
			if got := Compare(a, b); got != cmp.Compare(i, j) {
				t.Errorf("%d, %d: %d", i, j, got)
			}
			if Equal(a, b) != (i == j) {
				t.Errorf("%d, %d: Equal", i, j)
			}
		}
	}
}

func TestCompareExamples(t *testing.T) {
	cases := []struct {
		a, b api.Term
		want int
	}{
		{num(1), atom("a"), -1},
		{list(num(1)), open(num(2), num(1)), 1},                                              // nil against 2
		{list(num(1)), list(num(1), num(2)), -1},                                             // nil against [2]
		{open(bin(), num(1)), list(num(1), num(2)), 1},                                       // a bin against [2]
		{open(num(9), num(1)), list(num(1), num(2)), -1},                                     // 9 against [2]
		{open(num(9), num(1)), open(num(0), num(1), num(2)), -1},                             // 9 against [2|0]
		{open(tup(num(1), num(2)), num(1)), open(tup(num(1), num(3)), num(1)), -1},           // Rests, item by item
		{open(num(9), num(1)), list(num(2)), -1},                                             // items ahead of Rests
		{tup(num(9), num(9)), tup(num(1), num(1), num(1)), -1},                               // how many ahead of what
		{list(num(9), num(9)), list(num(1), num(1), num(1)), 1},                              // but not of lists
		{tup(tup(num(1), num(2)), num(0)), tup(tup(num(1), num(1)), num(9)), 1},              // the first that parts
		{tup(list(num(1)), num(0)), tup(list(num(1)), num(1)), -1},                           // behind a list that is the same
		{tup(open(num(1), num(1)), num(1)), tup(open(num(1), num(1)), num(0)), 1},            // behind a Rest
		{num(math.MinInt64), num(math.MaxInt64), -1},                                         // no difference that wraps
		{atom("\xff"), atom("a"), 1},                                                         // bytes have no sign
		{bin(128), bin(127), 1},                                                              //
		{atom("ab"), atom("b"), -1},                                                          // bytes ahead of length
		{atom("é"), atom("z"), 1},                                                            //
		{atom(strings.Repeat("a", 254) + "b"), atom(strings.Repeat("a", 254) + "a"), 1},      // the last byte
		{api.Term{Kind: api.Tuple, Items: []api.Term{}}, tup(), 0},                           // nil and empty are one
		{api.Term{Kind: api.Bin, Bytes: []byte{}}, bin(), 0},                                 //
		{api.Term{Kind: api.List, Items: many(1), Rest: []api.Term{}}, list(num(0)), 0},      //
		{nest(num(1), api.MaxDepth-1), nest(num(2), api.MaxDepth-1), -1},                     // as deep as may be
		{nest(open(num(3), num(1)), api.MaxDepth-2), nest(list(num(1)), api.MaxDepth-2), -1}, // 3 against nil
	}
	for i, c := range cases {
		if got := Compare(c.a, c.b); got != c.want {
			t.Errorf("%d: %d", i, got)
		}
		if got := Compare(c.b, c.a); got != -c.want {
			t.Errorf("%d, the other way: %d", i, got)
		}
		if Equal(c.a, c.b) != (c.want == 0) || Equal(c.b, c.a) != (c.want == 0) {
			t.Errorf("%d: Equal", i)
		}
	}
}

func TestCompareOfTheGreatestTerms(t *testing.T) {
	const most = api.MaxTerms
	last := func(make func(...api.Term) api.Term, n int, end int64) api.Term {
		items := many(n)
		items[n-1] = num(end)
		return make(items...)
	}
	bytes := func(n int, end byte) api.Term {
		b := make([]byte, n)
		b[n-1] = end
		return bin(b...)
	}
	pairs := map[string][2]api.Term{
		"tuple":       {last(tup, most-1, 1), last(tup, most-1, 2)},
		"list":        {last(list, most-1, 1), last(list, most-1, 2)},
		"Rest":        {open(num(1), many(most-2)...), open(num(2), many(most-2)...)},
		"bin":         {bytes(most-1, 1), bytes(most-1, 2)},
		"pairs":       {last(tup, most/2, 1), last(tup, most/2, 2)},
		"bytes ahead": {tup(bytes(most/2, 1), last(list, most/2-3, 1)), tup(bytes(most/2, 1), last(list, most/2-3, 2))},
		"leaves last": {tup(thicketOf(14, 1), thicketOf(14, 1)), tup(thicketOf(14, 1), thicketOf(14, 2))},
	}
	for name, p := range pairs {
		if Right(p[0]) != nil || Right(p[1]) != nil {
			t.Fatalf("%s: not right", name)
		}
		if Compare(p[0], p[1]) != -1 || Compare(p[1], p[0]) != 1 || Equal(p[0], p[1]) || !Equal(p[0], p[0]) {
			t.Errorf("%s: %d", name, Compare(p[0], p[1]))
		}
	}
}

// thicketOf is a thicket whose last leaf is a number of its own.
func thicketOf(n int, last int64) api.Term {
	t, end := num(1), num(last)
	for range n {
		t, end = list(t, t), list(t, end)
	}
	return end
}

func TestCompareOfTermsThatMayNotBe(t *testing.T) {
	var terms []api.Term
	for _, x := range wrong() {
		terms = append(terms, x)
	}
	terms = append(terms, ring(api.Tuple), ring(api.List), thicket(100), nest(num(1), 5000), num(1), tup(num(1), num(2)), list(num(1)))
	for _, a := range terms {
		for _, b := range terms {
			if c := Compare(a, b); c < -1 || c > 1 || Equal(a, b) != (c == 0) {
				t.Errorf("%d", c)
			}
		}
	}
}

// R1: parts that are shared are not looked at as often as they are met, if they are too great for a term.
func TestCompareOfGreatPartsThatAreShared(t *testing.T) {
	great := func(x api.Term) api.Term { return list(slices.Repeat([]api.Term{x}, api.MaxTerms)...) }
	bytes := func() []byte { return make([]byte, 1<<26) }
	for i, p := range [][2]api.Term{{great(bin(bytes()...)), great(bin(bytes()...))}, {great(atom(string(bytes()))), great(atom(string(bytes())))}} {
		if c := Compare(p[0], p[1]); c < -1 || c > 1 {
			t.Errorf("%d: %d", i, c)
		}
	}
}

// cells is a term with its lists as they are told by P2.2: an item, and what is left.
func cells(x api.Term) api.Term {
	items := make([]api.Term, len(x.Items))
	for i := range items {
		items[i] = cells(x.Items[i])
	}
	if x.Kind != api.List {
		x.Items = items
		return x
	}
	end := none()
	if len(x.Rest) > 0 {
		end = cells(x.Rest[0])
	}
	for _, item := range slices.Backward(items) {
		end = list(item, end)
	}
	return end
}

// byCells compares what cells answers.
func byCells(a, b api.Term) int {
	if a.Kind != b.Kind {
		return cmp.Compare(a.Kind, b.Kind)
	}
	return cmp.Or(cmp.Compare(a.N, b.N), strings.Compare(a.Name, b.Name), bytes.Compare(a.Bytes, b.Bytes),
		cmp.Compare(len(a.Items), len(b.Items)), slices.CompareFunc(a.Items, b.Items, byCells))
}

// near is a term that parts from another one by little.
func near(x api.Term, n int) api.Term {
	x = twin(x)
	switch {
	case len(x.Items) > 0 && n%3 == 0:
		x.Items[n%len(x.Items)] = near(x.Items[n%len(x.Items)], n/3)
	case x.Kind == api.List && n%3 == 1:
		x.Items = append(x.Items, num(int64(n%5)))
	case x.Kind == api.List:
		x.Rest = []api.Term{num(int64(n % 4))}
	case len(x.Bytes) > 0:
		x.Bytes[len(x.Bytes)-1] ^= byte(n)
	default:
		x = num(int64(n % 3))
	}
	return x
}

func TestCompareIsWhatTheRulesSay(t *testing.T) {
	terms := randoms(3000, 60)
	for i, a := range terms {
		for j, b := range []api.Term{terms[(i+1)%len(terms)], near(a, i), near(a, i/2), near(near(a, i), i/7), twin(a)} {
			want := byCells(cells(a), cells(b))
			if got := Compare(a, b); got != want {
				t.Fatalf("%d %d: %d, not %d", i, j, got, want)
			}
		}
	}
}

// P2.6

func TestCompareIsATotalOrder(t *testing.T) {
	terms := randoms(120, 20)
	for i := range 40 {
		terms = append(terms, near(terms[i], i))
	}
	for _, a := range terms {
		if Compare(a, a) != 0 || !Equal(a, twin(a)) {
			t.Error("not the same as itself")
		}
		for _, b := range terms {
			ab := Compare(a, b)
			if ab != -Compare(b, a) || (ab == 0) != same(a, b) {
				t.Errorf("%d %d", ab, Compare(b, a))
			}
			for _, c := range terms {
				if ab <= 0 && Compare(b, c) <= 0 && Compare(a, c) > 0 {
					t.Error("not transitive")
				}
			}
		}
	}
}
