package bif

import (
	"slices"

	"troupe/api"
)

// Classes of functions, by what they work on. They are found apart from each other, as a call makes anew what it looks into.
const (
	ofNumbers = iota
	ofSums
	ofLists
	ofTerms
	ofWholes // a tuple, a binary, an atom: what is taken apart
)

// call is a function with as many arguments as it has, all of which may be. What its methods answer may share memory with these.
type call struct {
	function
	args []api.Term
}

// doing does a function whose arguments are what it wants; false of numbers or places that it does not take.
type doing func() (api.Term, bool)

// answer is what a function comes to, or the reason for which it does not.
func (c *call) answer() (api.Term, string) {
	do, reason := c.find()
	for i, t := range c.args {
		if !takes(c.wants[i], t) {
			return api.Term{}, reason
		}
	}
	t, ok := do()
	if !ok {
		return api.Term{}, reason
	}
	return t, ""
}

// find is what does a function, and the reason of its class.
func (c *call) find() (doing, string) {
	const badarg, badarith = "badarg", "badarith"
	reason := badarg
	switch c.class {
	case ofNumbers:
		return c.numbers()[c.name], badarith
	case ofSums: // of a list, but a list of numbers
		reason = badarith
		fallthrough
	case ofLists:
		return c.lists()[c.name], reason
	case ofTerms:
		return c.terms()[c.name], reason
	default:
		return c.wholes()[c.name], reason
	}
}

// takes tells whether a term is what an argument has to be.
func takes(want byte, t api.Term) bool {
	switch want {
	case 'n': // a number
		return t.Kind == api.Int
	case 'm': // a list of numbers
		if slices.ContainsFunc(t.Items, isNoInt) {
			return false
		}
		fallthrough
	case 'l': // a proper list
		return t.Kind == api.Nil || t.Kind == api.List && len(t.Rest) == 0
	case 'w': // a whole that has a size
		if t.Kind == api.Tuple {
			return true
		}
		fallthrough
	case 'b': // a binary
		return t.Kind == api.Bin
	case 't': // a tuple
		return t.Kind == api.Tuple
	case 'a': // an atom
		return t.Kind == api.Atom
	}
	return true
}

func isNoInt(t api.Term) bool { return t.Kind != api.Int }

// items are an argument's.
func (c *call) items(i int) []api.Term { return c.args[i].Items }

// number is an argument's.
func (c *call) number(i int) int64 { return c.args[i].N }

// integer is the answer n.
func integer(n int64) (api.Term, bool) {
	return api.Term{Kind: api.Int, N: n}, true
}

// truth is the answer true or false.
func truth(is bool) (api.Term, bool) {
	name := "false"
	if is {
		name = "true"
	}
	return api.Term{Kind: api.Atom, Name: name}, true
}

// list is the answer that is a list of items, and of what it ends with.
func list(items []api.Term, rest ...api.Term) (api.Term, bool) {
	if len(items) == 0 {
		return api.Term{Kind: api.Nil}, true
	}
	return api.Term{Kind: api.List, Items: items, Rest: rest}, true
}

// tuple is the answer that is a tuple of items.
func tuple(items []api.Term) (api.Term, bool) {
	return api.Term{Kind: api.Tuple, Items: items}, true
}

// binary is the answer that is a binary of bytes.
func binary(bytes []byte) (api.Term, bool) {
	return api.Term{Kind: api.Bin, Bytes: bytes}, true
}

// bytesList is the answer that is a list of bytes.
func bytesList(bytes []byte) (api.Term, bool) {
	var items []api.Term
	for _, b := range bytes {
		items = append(items, api.Term{Kind: api.Int, N: int64(b)})
	}
	return list(items)
}

// place is where the item stands that an argument counts from 1 on; false if there is none.
func place(n int64, items []api.Term) (int, bool) {
	return int(n - 1), n >= 1 && n <= int64(len(items))
}

// item is the item of the second argument that the first one counts.
func (c *call) item() (api.Term, bool) {
	at, ok := place(c.number(0), c.items(1))
	if !ok {
		return api.Term{}, false
	}
	return c.items(1)[at], true
}
