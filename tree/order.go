package tree

import (
	"bytes"
	"cmp"

	"troupe/api"
)

// dearest is what two terms that may be cost at most: each part is met once, and what is left behind each item. Terms that hold themselves would cost more without end.
const dearest = 2 * api.MaxTerms

// Compare compares.
func Compare(a, b api.Term) int {
	left := []pair{{a, b}} // the last one is the next
	for spent := 0; len(left) > 0; {
		p := left[len(left)-1]
		left = left[:len(left)-1]
		spent += p.cost()
		if spent > dearest {
			return 0
		}
		if c := p.compare(); c != 0 {
			return c
		}
		if p.goesOn() {
			left = append(left, pair{behind(p.a), behind(p.b)}, pair{p.a.Items[0], p.b.Items[0]})
		}
	}
	return 0
}

// Equal tells whether terms are the same.
func Equal(a, b api.Term) bool { return Compare(a, b) == 0 }

// pair are two terms that are to be compared.
type pair struct{ a, b api.Term }

// cost is how much is to be looked at. (A name that a term may have costs nothing more.)
func (p pair) cost() int {
	return 1 + len(p.a.Bytes) + len(p.a.Name)/(longestName+1)
}

// compare compares all but the items.
func (p pair) compare() int {
	c := cmp.Compare(p.a.Kind, p.b.Kind)
	if c != 0 {
		return c
	}
	switch p.a.Kind {
	case api.Int, api.Ref, api.Pid:
		c = cmp.Compare(p.a.N, p.b.N)
	case api.Atom:
		c = cmp.Compare(p.a.Name, p.b.Name)
	case api.Bin:
		c = bytes.Compare(p.a.Bytes, p.b.Bytes)
	case api.Tuple:
		c = cmp.Compare(len(p.a.Items), len(p.b.Items))
	}
	return c
}

// goesOn tells whether both have an item.
func (p pair) goesOn() bool {
	return len(p.a.Items) > 0 && len(p.b.Items) > 0
}

// behind is what is left of a term behind its first item.
func behind(t api.Term) api.Term {
	if t.Kind == api.List && len(t.Items) == 1 {
		return end(t)
	}
	t.Items = t.Items[1:]
	return t
}

// end is what a list ends with.
func end(t api.Term) api.Term {
	if len(t.Rest) == 0 {
		return api.Term{Kind: api.Nil}
	}
	return t.Rest[0]
}
