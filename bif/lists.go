package bif

import (
	"math"
	"slices"

	"troupe/api"
	"troupe/tree"
)

// mostSeq is how many items seq answers at most.
const mostSeq = 1000

// lists are the functions of lists, or that make one of numbers.
func (c *call) lists() map[string]doing {
	return map[string]doing{
		"list_to_tuple": c.listToTuple,
		"append":        c.append,
		"reverse":       c.reverse,
		"length":        c.length,
		"member":        c.member,
		"nth":           c.item,
		"list_to_bin":   c.listToBin,
		"sum":           c.sum,
		"seq":           c.seq,
	}
}

func (c *call) listToTuple() (api.Term, bool) { return tuple(c.items(0)) }

func (c *call) append() (api.Term, bool) {
	items, end := c.items(0), c.args[1]
	switch {
	case len(items) == 0:
		return end, true
	case end.Kind == api.List:
		return list(slices.Concat(items, end.Items), end.Rest...)
	case end.Kind == api.Nil:
		return list(items)
	}
	return list(items, end)
}

func (c *call) reverse() (api.Term, bool) {
	items := slices.Clone(c.items(0))
	slices.Reverse(items)
	return list(items)
}

func (c *call) length() (api.Term, bool) { return integer(int64(len(c.items(0)))) }

func (c *call) member() (api.Term, bool) {
	same := func(item api.Term) bool { return tree.Equal(c.args[0], item) }
	return truth(slices.ContainsFunc(c.items(1), same))
}

func (c *call) listToBin() (api.Term, bool) {
	var bytes []byte
	for _, item := range c.items(0) {
		if item.N < 0 || item.N > math.MaxUint8 {
			return api.Term{}, false
		}
		bytes = append(bytes, byte(item.N))
	}
	return binary(bytes)
}

func (c *call) sum() (api.Term, bool) {
	sum := int64(0)
	for _, item := range c.items(0) {
		sum += item.N
	}
	return integer(sum)
}

func (c *call) seq() (api.Term, bool) {
	from, to := c.number(0), c.number(1)
	if to < from {
		return list(nil)
	}
	if uint64(to)-uint64(from) >= mostSeq { // unsigned: they may be further apart than an int64 tells
		return api.Term{}, false
	}
	var items []api.Term
	for i := range to - from + 1 {
		items = append(items, api.Term{Kind: api.Int, N: from + i})
	}
	return list(items)
}
