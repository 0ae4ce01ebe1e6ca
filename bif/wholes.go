package bif

import (
	"slices"

	"troupe/api"
)

// wholes are the functions of tuples, binaries and atoms.
func (c *call) wholes() map[string]doing {
	return map[string]doing{
		"size":          c.size,
		"element":       c.item,
		"setelement":    c.setElement,
		"tuple_to_list": c.tupleToList,
		"bin_to_list":   c.binToList,
		"bin_at":        c.binAt,
		"bin_part":      c.binPart,
		"bin_join":      c.binJoin,
		"atom_to_list":  c.atomToList,
	}
}

// bytes are an argument's.
func (c *call) bytes(i int) []byte { return c.args[i].Bytes }

// size counts both, as a tuple has no bytes, and a binary no items.
func (c *call) size() (api.Term, bool) {
	return integer(int64(len(c.items(0)) + len(c.bytes(0))))
}

func (c *call) setElement() (api.Term, bool) {
	at, ok := place(c.number(0), c.items(1))
	if !ok {
		return api.Term{}, false
	}
	items := slices.Clone(c.items(1))
	items[at] = c.args[2]
	return tuple(items)
}

func (c *call) tupleToList() (api.Term, bool) { return list(c.items(0)) }

func (c *call) binToList() (api.Term, bool) { return bytesList(c.bytes(0)) }

func (c *call) binAt() (api.Term, bool) {
	bytes, at := c.bytes(0), c.number(1)
	if at < 0 || at >= int64(len(bytes)) {
		return api.Term{}, false
	}
	return integer(int64(bytes[at]))
}

// binPart takes where the part begins, and how many bytes it has, in the order of binary's Part and heap's View.
func (c *call) binPart() (api.Term, bool) {
	bytes, from, n := c.bytes(0), c.number(1), c.number(2)
	if from < 0 || n < 0 || n > int64(len(bytes))-from { // from + n may be more than an int64 is
		return api.Term{}, false
	}
	return binary(bytes[from : from+n])
}

func (c *call) binJoin() (api.Term, bool) {
	return binary(slices.Concat(c.bytes(0), c.bytes(1)))
}

func (c *call) atomToList() (api.Term, bool) { return bytesList([]byte(c.args[0].Name)) }
