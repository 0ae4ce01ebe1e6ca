package bif

import (
	"slices"

	"troupe/api"
	"troupe/tree"
)

// A hash begins with firstHash; each byte is put behind it by hashFactor, modulo hashes.
const (
	firstHash  = 5381
	hashFactor = 33
	hashes     = 1 << 31
)

// terms are the functions of any terms.
func (c *call) terms() map[string]doing {
	return map[string]doing{
		"eq":       c.eq,
		"lt":       c.lt,
		"compare":  c.compare,
		"is_int":   c.isInt,
		"is_atom":  c.isAtom,
		"is_pid":   c.isPid,
		"is_ref":   c.isRef,
		"is_tuple": c.isTuple,
		"is_list":  c.isList,
		"is_bin":   c.isBin,
		"hash":     c.hash,
	}
}

// order is how the first argument stands to the second one.
func (c *call) order() int { return tree.Compare(c.args[0], c.args[1]) }

func (c *call) eq() (api.Term, bool) { return truth(c.order() == 0) }

func (c *call) lt() (api.Term, bool) { return truth(c.order() < 0) }

func (c *call) compare() (api.Term, bool) { return integer(int64(c.order())) }

// isOf tells whether the argument is of one of the kinds.
func (c *call) isOf(kinds ...int) (api.Term, bool) {
	return truth(slices.Contains(kinds, c.args[0].Kind))
}

func (c *call) isInt() (api.Term, bool) { return c.isOf(api.Int) }

func (c *call) isAtom() (api.Term, bool) { return c.isOf(api.Atom) }

func (c *call) isPid() (api.Term, bool) { return c.isOf(api.Pid) }

func (c *call) isRef() (api.Term, bool) { return c.isOf(api.Ref) }

func (c *call) isTuple() (api.Term, bool) { return c.isOf(api.Tuple) }

func (c *call) isList() (api.Term, bool) { return c.isOf(api.Nil, api.List) }

func (c *call) isBin() (api.Term, bool) { return c.isOf(api.Bin) }

func (c *call) hash() (api.Term, bool) {
	text, err := tree.Write(c.args[0])
	h := int64(firstHash)
	for i := range len(text) {
		h = (hashFactor*h + int64(text[i])) % hashes
	}
	return api.Term{Kind: api.Int, N: h}, err == nil
}
