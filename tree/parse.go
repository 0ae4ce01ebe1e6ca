package tree

import (
	"math"
	"strings"

	"troupe/api"
	"troupe/fault"
)

// Parse reads a term's text.
func Parse(s string) (api.Term, error) {
	r := reader{text: s}
	if !r.whole() {
		return api.Term{}, fault.At("parse", r.at, api.ErrBytes)
	}
	if r.full != nil {
		return api.Term{}, fault.At("parse", 0, r.full)
	}
	return r.term, nil
}

// reader goes through a text byte by byte, up to the first one that is wrong. Its methods answer false there.
// It keeps what is open by itself, for a text may be as deep as it is long, and is looked at to its end ahead of telling that.
type reader struct {
	text  string
	at    int    // the byte that is next
	open  []byte // what is open, the innermost last: '{' a tuple, '[' a list's items, '|' its Rest
	gauge gauge
	full  error      // of the first part that is too deep or too many: from there on nothing is built
	terms []api.Term // those that are open, as far as they are built
	term  api.Term   // the text's term
}

// peek is the next byte; at the end 0, which stands nowhere in a text.
func (r *reader) peek() byte {
	if r.at == len(r.text) {
		return 0
	}
	return r.text[r.at]
}

// skip goes on by bytes that must stand here.
func (r *reader) skip(bytes string) bool {
	for i := range len(bytes) {
		if r.peek() != bytes[i] {
			return false
		}
		r.at++
	}
	return true
}

// whole reads one term, and nothing behind it.
func (r *reader) whole() bool {
	more, ok := r.begin()
	for ok && (more || len(r.open) > 0) {
		if more {
			more, ok = r.begin()
		} else {
			more, ok = r.goOn()
		}
	}
	return ok && r.at == len(r.text)
}

// begin reads a term, or one that has parts as far as its first one: then more is to begin.
func (r *reader) begin() (more, ok bool) {
	switch r.peek() {
	case '{':
		return r.enter(api.Tuple, api.Tuple, '}'), true
	case '[':
		return r.enter(api.List, api.Nil, ']'), true
	}
	t, ok := r.simple()
	r.meet(len(t.Bytes))
	r.lay(t)
	return false, ok
}

// enter opens a term; or it is an empty one, if it is closed at once.
func (r *reader) enter(kind, empty int, closing byte) (more bool) {
	r.meet(0)
	opening := r.peek()
	r.at++
	if r.peek() == closing {
		r.at++
		r.lay(api.Term{Kind: empty})
		return false
	}
	r.open = append(r.open, opening)
	if r.full == nil {
		r.terms = append(r.terms, api.Term{Kind: kind})
	}
	return true
}

// goOn reads what stands behind a part.
func (r *reader) goOn() (more, ok bool) {
	in := &r.open[len(r.open)-1]
	switch b := r.peek(); {
	case b == ',' && *in != '|':
		r.at++
		return true, true
	case b == '|' && *in == '[':
		*in = '|'
		r.at++
		return true, r.peek() != '[' // a Rest is no list
	case b == '}' && *in == '{', b == ']' && *in != '{':
		r.at++
		r.leave()
		return false, true
	}
	return false, false
}

// leave closes the innermost term.
func (r *reader) leave() {
	r.open = r.open[:len(r.open)-1]
	if r.full == nil {
		t := r.terms[len(r.terms)-1]
		r.terms = r.terms[:len(r.terms)-1]
		r.lay(t)
	}
}

// meet counts a part.
func (r *reader) meet(bytes int) {
	if r.full == nil {
		r.full = r.gauge.meet(len(r.open)+1, bytes)
	}
}

// lay puts a term that is whole where it belongs.
func (r *reader) lay(t api.Term) {
	if r.full != nil {
		return
	}
	if len(r.open) == 0 {
		r.term = t
		return
	}
	in := &r.terms[len(r.terms)-1]
	if r.open[len(r.open)-1] == '|' {
		in.Rest = []api.Term{t}
	} else {
		in.Items = append(in.Items, t)
	}
}

// simple reads a term without parts.
func (r *reader) simple() (api.Term, bool) {
	switch b := r.peek(); {
	case b == '#':
		return r.numbered()
	case b == '-', isDigit(b):
		return r.integer()
	case b == '<':
		return r.binary()
	case b == '\'':
		return r.quoted()
	case isLetter(b):
		return r.word(), true
	}
	return api.Term{}, false
}

// number reads the digits of a number up to most, as far as they go on; a digit too many is left, and wrong wherever it stands.
func (r *reader) number(most uint64) (n uint64, ok bool) {
	for isDigit(r.peek()) {
		digit := uint64(r.peek() - '0')
		if ok && n == 0 || n > (most-digit)/10 {
			break
		}
		n, ok = 10*n+digit, true
		r.at++
	}
	return n, ok
}

func (r *reader) integer() (api.Term, bool) {
	sign, most := int64(1), uint64(math.MaxInt64)
	if r.peek() == '-' {
		r.at++
		if r.peek() == '0' {
			return api.Term{}, false
		}
		sign, most = -1, most+1
	}
	n, ok := r.number(most)
	return api.Term{Kind: api.Int, N: sign * int64(n)}, ok // the least number wraps to itself
}

func (r *reader) numbered() (api.Term, bool) {
	r.at++
	kind := api.Ref
	switch r.peek() {
	case 'p':
		kind = api.Pid
		fallthrough
	case 'r':
		r.at++
		n, ok := r.number(greatestRef)
		return api.Term{Kind: kind, N: int64(n)}, ok
	}
	return api.Term{}, false
}

func (r *reader) binary() (api.Term, bool) {
	t := api.Term{Kind: api.Bin}
	if !r.skip("<<") {
		return t, false
	}
	if r.peek() == '>' {
		return t, r.skip(">>")
	}
	for {
		n, ok := r.number(math.MaxUint8)
		if !ok {
			return t, false
		}
		t.Bytes = append(t.Bytes, byte(n))
		if r.peek() != ',' {
			return t, r.skip(">>")
		}
		r.at++
	}
}

// word reads an atom without quotes; a byte too many is left, and wrong wherever it stands.
func (r *reader) word() api.Term {
	from := r.at
	for inWord(r.peek()) && r.at-from < longestName {
		r.at++
	}
	return api.Term{Kind: api.Atom, Name: strings.Clone(r.text[from:r.at])} // a part of the text would keep all of it
}

func (r *reader) quoted() (api.Term, bool) {
	r.at++
	var bytes []byte
	for r.peek() != '\'' {
		if len(bytes) == longestName {
			return api.Term{}, false
		}
		b, ok := r.inQuotes()
		if !ok {
			return api.Term{}, false
		}
		bytes = append(bytes, b)
	}
	name := string(bytes)
	if name == "" || plain(name) {
		return api.Term{}, false
	}
	r.at++
	return api.Term{Kind: api.Atom, Name: name}, true
}

// inQuotes reads one byte of a name.
func (r *reader) inQuotes() (byte, bool) {
	b := r.peek()
	switch {
	case hidden(b):
		return 0, false
	case b == '\\':
		r.at++
		b = r.peek()
		if b == 'x' {
			r.at++
			return r.byNumber()
		}
		if b != '\'' && b != '\\' {
			return 0, false
		}
		fallthrough
	default:
		r.at++
		return b, true
	}
}

// byNumber reads a byte's two digits. The first one is wrong, if even with the greatest second one the byte is none that is written so.
func (r *reader) byNumber() (byte, bool) {
	high, ok := sixteenth(r.peek())
	if !ok || !hidden(high<<4|15) {
		return 0, false
	}
	r.at++
	low, ok := sixteenth(r.peek())
	if !ok || !hidden(high<<4|low) {
		return 0, false
	}
	r.at++
	return high<<4 | low, true
}

// sixteenth is the value of a hexadecimal digit.
func sixteenth(b byte) (byte, bool) {
	switch {
	case isDigit(b):
		return b - '0', true
	case b >= 'a' && b <= 'f':
		return b - 'a' + 10, true
	}
	return 0, false
}
