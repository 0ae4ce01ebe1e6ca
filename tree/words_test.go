package tree

import (
	"math"
	"testing"

	"troupe/api"
)

// P2.3

func TestWords(t *testing.T) {
	cases := []struct {
		x    api.Term
		want int
	}{
		{num(0), 0}, {num(most60), 0}, {num(-most60 - 1), 0},
		{num(most60 + 1), 2}, {num(-most60 - 2), 2}, {num(math.MaxInt64), 2}, {num(math.MinInt64), 2},
		{atom("a"), 0}, {ref(most60), 0}, {pid(most60), 0}, {none(), 0},
		{tup(), 1}, {tup(num(1)), 2}, {tup(many(16)...), 17},
		{list(num(1)), 3}, {list(many(10)...), 30}, {open(num(1), num(2)), 3}, {open(num(1), many(5)...), 15},
		{bin(), 4}, {bin(1, 2, 3), 4}, {bin(make([]byte, api.MaxTerms-1)...), 4},
		{tup(num(1), list(num(2))), 6},
		{tup(num(math.MaxInt64), bin(1), tup()), 4 + 2 + 4 + 1},
		{list(num(math.MinInt64), list(none(), bin())), 6 + 2 + 6 + 4},
		{open(tup(bin()), num(1)), 3 + 2 + 4},
		{open(num(math.MinInt64), num(1)), 3 + 2},
		{nest(num(1), api.MaxDepth-1), 2 * (api.MaxDepth - 1)},
		{list(many(api.MaxTerms - 1)...), 3 * (api.MaxTerms - 1)},
		{thicket(15), 3 * (1<<15 - 1)}, // shared parts count each time
	}
	for i, c := range cases {
		if got := Words(c.x); got != c.want {
			t.Errorf("%d: %d, not %d", i, got, c.want)
		}
	}
}

func TestWordsOfTermsThatMayNotBe(t *testing.T) {
	for name, x := range wrong() {
		for _, y := range []api.Term{x, tup(bin(1), x), open(x, num(math.MaxInt64))} {
			if got := Words(y); got != 0 {
				t.Errorf("%s: %d", name, got)
			}
		}
	}
	for i, x := range []api.Term{nest(num(1), api.MaxDepth), tup(many(api.MaxTerms)...), bin(make([]byte, api.MaxTerms)...), thicket(16)} {
		if got := Words(x); got != 0 {
			t.Errorf("%d: %d", i, got)
		}
	}
}
