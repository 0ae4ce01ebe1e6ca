package code

import "troupe/api"

// level is a term that is being read. Those that are not whole are kept in a list, as a term may be as deep as its bytes are many.
type level struct {
	term   *api.Term // where it is built; nil: it is not
	left   int       // how many parts are to come, as far as it is told
	list   bool      // behind these it is told whether a Rest is to come
	inRest bool      // what is to come is the Rest
}

func levelOf(t *api.Term, kind, items int) level {
	return level{term: t, left: items, list: kind == api.List}
}

// term reads a term, whether it may be or not.
func (r *reader) term() api.Term {
	t, items := r.begin()
	levels := []level{levelOf(&t, t.Kind, items)} // the innermost last
	for met := 1; len(levels) > 0; {
		in := &levels[len(levels)-1]
		if r.whole(in) {
			levels = levels[:len(levels)-1]
			continue
		}
		part, items := r.begin()
		levels = append(levels, levelOf(in.lay(part, met), part.Kind, items))
		met++
	}
	return t
}

// begin reads a term as far as its parts, and how many items it has.
func (r *reader) begin() (t api.Term, items int) {
	place := r.at
	t.Kind = int(r.next())
	switch t.Kind {
	case api.Int, api.Ref, api.Pid:
		t.N = r.integer()
	case api.Atom:
		t.Name = string(r.some())
	case api.Tuple, api.List:
		items = r.count()
	case api.Nil:
	case api.Bin:
		t.Bytes = append(t.Bytes, r.some()...)
	default:
		panic(wrong(place))
	}
	return t, items
}

// whole tells whether no part of a term is to come any more.
func (r *reader) whole(l *level) bool {
	if l.left > 0 || !l.list {
		return l.left == 0
	}
	l.list = false
	place := r.at
	switch r.next() {
	case 0:
		return true
	case 1:
		l.left, l.inRest = 1, true
		return false
	}
	panic(wrong(place))
}

// lay puts the next part of a term, which is the nth of all parts, where it belongs, and answers where it is built.
// Parts beyond the first one that is too many are left out, as tree's Right looks at none of them; but at a list it looks at the Rest's kind ahead of all items.
func (l *level) lay(part api.Term, n int) *api.Term {
	l.left--
	tooMany := n > api.MaxTerms
	if l.term == nil || tooMany && !l.inRest {
		return nil
	}
	list := &l.term.Items
	if l.inRest {
		list = &l.term.Rest
	}
	*list = append(*list, part)
	if tooMany {
		return nil
	}
	return &(*list)[len(*list)-1]
}
