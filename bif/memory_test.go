package bif_test

import (
	"slices"
	"testing"

	"troupe/api"
	"troupe/bif"
)

// P8.3, R3, R4: answers hang on the arguments alone, and share no memory with them.

// roomy is the same term, each of its lists with spare room.
func roomy(t api.Term) api.Term {
	room := func(from []api.Term) []api.Term {
		to := slices.Grow(twins(from), 3)
		for i := range from {
			to[i] = roomy(from[i])
		}
		for i := range to[len(to):cap(to)] {
			to[len(to):cap(to)][i] = atom("room")
		}
		return to
	}
	bytes := slices.Grow(slices.Clone(t.Bytes), 3)
	for i := range bytes[len(bytes):cap(bytes)] {
		bytes[len(bytes):cap(bytes)][i] = 9
	}
	t.Items, t.Rest, t.Bytes = room(t.Items), room(t.Rest), bytes
	return t
}

// gather puts all lists of a term, with their spare room, behind those that are there.
func (m *memory) gather(t api.Term) {
	for _, l := range [][]api.Term{t.Items, t.Rest} {
		if cap(l) > 0 {
			m.terms = append(m.terms, l[:cap(l)])
		}
		for _, x := range l {
			m.gather(x)
		}
	}
	if cap(t.Bytes) > 0 {
		m.bytes = append(m.bytes, t.Bytes[:cap(t.Bytes)])
	}
}

// memory are lists, and what they held when they were gathered.
type memory struct {
	terms, oldTerms [][]api.Term
	bytes, oldBytes [][]byte
}

func memoryOf(ts ...api.Term) *memory {
	m := &memory{}
	for _, t := range ts {
		m.gather(t)
	}
	for _, l := range m.terms {
		m.oldTerms = append(m.oldTerms, slices.Clone(l))
	}
	for _, l := range m.bytes {
		m.oldBytes = append(m.oldBytes, slices.Clone(l))
	}
	return m
}

// asWas tells whether all lists hold what they held, spare room too.
func (m *memory) asWas() bool {
	for i, l := range m.terms {
		if !slices.EqualFunc(l, m.oldTerms[i], sameHead) {
			return false
		}
	}
	for i, l := range m.bytes {
		if !slices.Equal(l, m.oldBytes[i]) {
			return false
		}
	}
	return true
}

// sameHead tells whether two terms are the same but for their lists, which are looked at by themselves.
func sameHead(a, b api.Term) bool {
	return a.Kind == b.Kind && a.N == b.N && a.Name == b.Name && len(a.Items) == len(b.Items) && len(a.Rest) == len(b.Rest) && len(a.Bytes) == len(b.Bytes)
}

// stamp overwrites each list, spare room too, by a number of its own.
func (m *memory) stamp() {
	for i, l := range m.terms {
		for j := range l {
			l[j] = num(int64(-1 - i))
		}
	}
	for i, l := range m.bytes {
		for j := range l {
			l[j] = byte(i)
		}
	}
}

// stamped tells whether each list holds its own number still: then no two of them share memory.
func (m *memory) stamped() bool {
	for i, l := range m.terms {
		for _, x := range l {
			if !same(x, num(int64(-1-i))) {
				return false
			}
		}
	}
	for i, l := range m.bytes {
		for _, b := range l {
			if b != byte(i) {
				return false
			}
		}
	}
	return true
}

// calls are arguments for each function, among them such as go on into the answer.
func calls(t *testing.T) map[string][][]api.Term {
	t.Helper()
	part := roomy(term(t, "{[a,[b|{c}]],<<1,2,3>>,[[1],<<4,5>>|{<<6>>}]}"))
	items := roomy(list(part, num(2), part)).Items
	items[0], items[2] = part, part // the same memory twice
	proper, whole, bytes := list(items...), tup(items...), roomy(bin(1, 2, 3, 4))
	proper.Items, whole.Items = items, items
	improper := roomy(open(part, part, num(1)))
	numbers := roomy(term(t, "[1,2,3]"))
	calls := map[string][][]api.Term{
		"eq": {{part, part}, {proper, improper}}, "lt": {{part, part}, {proper, improper}}, "compare": {{part, part}, {proper, improper}},
		"size": {{whole}, {bytes}}, "element": {{num(1), whole}, {num(2), whole}, {num(3), whole}}, "setelement": {{num(1), whole, part}, {num(2), whole, whole}, {num(3), whole, proper}, {num(2), whole, bytes}},
		"list_to_tuple": {{proper}, {null()}}, "tuple_to_list": {{whole}, {roomy(tup())}},
		"append":  {{proper, part}, {proper, proper}, {proper, null()}, {proper, improper}, {null(), part}, {null(), proper}, {null(), improper}, {proper, bytes}, {null(), bytes}, {proper, num(1)}},
		"reverse": {{proper}, {null()}}, "length": {{proper}}, "member": {{part, proper}, {whole, proper}}, "nth": {{num(1), proper}, {num(3), proper}},
		"list_to_bin": {{numbers}, {null()}}, "bin_to_list": {{bytes}}, "bin_at": {{bytes, num(3)}}, "bin_part": {{bytes, num(0), num(4)}, {bytes, num(1), num(2)}, {bytes, num(4), num(0)}}, "bin_join": {{bytes, bytes}, {bytes, roomy(bin())}, {roomy(bin()), bytes}},
		"sum": {{numbers}}, "seq": {{num(1), num(5)}}, "atom_to_list": {{atom("abc")}}, "hash": {{part}, {improper}},
	}
	for _, f := range chapter() {
		switch {
		case len(calls[f.name]) > 0:
		case f.args == 2:
			calls[f.name] = [][]api.Term{{num(7), num(3)}, {num(7), part}, {proper, whole}}
		default:
			calls[f.name] = [][]api.Term{{num(7)}, {part}, {proper}, {improper}, {bytes}, {whole}}
		}
	}
	return calls
}

func TestWhatIsHandedInIsNotChanged(t *testing.T) {
	for name, rows := range calls(t) {
		for i, args := range rows {
			m, whole := memoryOf(args...), twins(args)
			bif.Do(number(t, name), args...)
			bif.Do(number(t, name), append(args[:len(args):len(args)], num(1))...) // undef
			if !m.asWas() || !slices.EqualFunc(args, whole, same) {
				t.Errorf("%s, %d: the arguments were turned", name, i)
			}
		}
	}
}

func TestAnswersAreNewMemory(t *testing.T) {
	for name, rows := range calls(t) {
		for i, args := range rows {
			m, n := memoryOf(args...), number(t, name)
			a, reason, err := bif.Do(n, args...)
			b, again, other := bif.Do(n, args...)
			want := twin(a)
			if reason != again || err != nil || other != nil || !same(b, want) {
				t.Fatalf("%s, %d: %q, %v and %q, %v", name, i, reason, err, again, other)
			}
			lists := memoryOf(a)
			lists.stamp()
			if !lists.stamped() {
				t.Errorf("%s, %d: two lists of an answer share memory", name, i)
			}
			if !m.asWas() {
				t.Errorf("%s, %d: an answer shares memory with an argument", name, i)
			}
			if c, _, _ := bif.Do(n, args...); !same(b, want) || !same(c, want) {
				t.Errorf("%s, %d: two answers share memory", name, i)
			}
		}
	}
}

func TestAnswersDoNotChangeBehindTheArguments(t *testing.T) {
	for name := range calls(t) {
		for i, args := range calls(t)[name] { // new ones, as they are spoilt
			x, _, _ := bif.Do(number(t, name), args...)
			want, m := twin(x), memoryOf(args...)
			m.stamp()
			clear(args)
			if !same(x, want) {
				t.Errorf("%s, %d: the answer hangs on an argument's memory", name, i)
			}
		}
	}
}

// What was called ahead turns nothing.
func TestCallsHaveNothingInCommon(t *testing.T) {
	var first []api.Term
	for range 3 {
		var now []api.Term
		for _, f := range chapter() {
			for _, args := range calls(t)[f.name] {
				x, reason, err := bif.Do(number(t, f.name), args...)
				if err != nil {
					t.Fatal(err)
				}
				now = append(now, x, atom("reason"+reason))
			}
		}
		if first == nil {
			first = now
		}
		if !slices.EqualFunc(first, now, same) {
			t.Error("another answer")
		}
	}
}

// Reversed twice, taken apart and put together again, a term is what it was.
func TestThereAndBack(t *testing.T) {
	for _, text := range []string{"[1]", "[1,2,3]", "[a,[b|c],{},<<>>,[]]", "[[1,2],[3]]"} {
		x := term(t, text)
		if y := answers(t, "reverse", answers(t, "reverse", x)); !same(x, y) {
			t.Errorf("%s: reverse", text)
		}
		if y := answers(t, "tuple_to_list", answers(t, "list_to_tuple", x)); !same(x, y) {
			t.Errorf("%s: list_to_tuple", text)
		}
		n := answers(t, "length", x).N
		for i := range n {
			if y := answers(t, "nth", num(i+1), x); !same(y, x.Items[i]) {
				t.Errorf("%s: nth %d", text, i)
			}
			if y := answers(t, "append", list(x.Items[:i+1]...), answers(t, "append", list(x.Items[i:]...), null())); !same(y, list(slices.Concat(x.Items[:i+1], x.Items[i:])...)) {
				t.Errorf("%s: append %d", text, i)
			}
		}
	}
	all := make([]byte, 256)
	for i := range all {
		all[i] = byte(i)
	}
	x := bin(all...)
	if y := answers(t, "list_to_bin", answers(t, "bin_to_list", x)); !same(x, y) {
		t.Error("list_to_bin")
	}
	for i := range int64(257) {
		a, b := answers(t, "bin_part", x, num(0), num(i)), answers(t, "bin_part", x, num(i), num(256-i))
		if y := answers(t, "bin_join", a, b); !same(x, y) {
			t.Errorf("bin_part %d", i)
		}
	}
}
