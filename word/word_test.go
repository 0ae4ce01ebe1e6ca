package word

import (
	"math"
	"math/rand"
	"strconv"
	"strings"
	"testing"

	"troupe/api"
	"troupe/tree"
)

const (
	most60  = 1<<60 - 1
	least60 = -1 << 60
)

// P4.2

func TestWordsThatTheChapterTells(t *testing.T) {
	a := NewAtoms()
	isSmall(t, a, num(-1), math.MaxUint64-7)
	isSmall(t, a, name("first"), 1)
	isSmall(t, a, empty(), 4)
}

func TestEachRowOfTheTable(t *testing.T) {
	a := table(t, "a", "b", "c")
	cases := []struct {
		x    api.Term
		want uint64
	}{
		{num(0), 0}, {num(1), 8}, {num(5), 40}, {num(-2), math.MaxUint64 - 15},
		{num(most60), 1<<63 - 8}, {num(most60 - 1), 1<<63 - 16}, {num(least60), 1 << 63}, {num(least60 + 1), 1<<63 + 8},
		{name("a"), 1}, {name("c"), 17}, {name("b"), 9},
		{pid(0), 2}, {pid(1), 10}, {pid(64), 514}, {pid(most60), 1<<63 - 8 + 2},
		{ref(0), 3}, {ref(1), 11}, {ref(4097), 8*4097 + 3}, {ref(most60), 1<<63 - 8 + 3},
		{empty(), 4},
	}
	for _, c := range cases {
		isSmall(t, a, c.x, c.want)
	}
	isTable(t, a, "a", "b", "c")
}

func TestSmallNumbersNewAtoms(t *testing.T) {
	a := NewAtoms()
	long := strings.Repeat("\xff", 255)
	for i, s := range []string{"x", "y", long} {
		isSmall(t, a, name(s), uint64(8*i+1))
		isSmall(t, a, name("x"), 1)
	}
	isTable(t, a, "x", "y", long)
}

// large are terms that may be, and want more than a word.
func large() []api.Term {
	return []api.Term{
		num(most60 + 1), num(least60 - 1), num(1 << 62), num(-1 << 62), num(math.MaxInt64), num(math.MinInt64),
		tup(), tup(name("new")), list(name("new")), list(empty(), tup(name("new"))),
		{Kind: api.List, Items: []api.Term{num(1)}, Rest: []api.Term{name("new")}},
		bin(), bin(1, 2, 3),
	}
}

func TestTermsThatWantMoreThanAWord(t *testing.T) {
	for _, a := range []*Atoms{NewAtoms(), table(t, names(api.MaxAtoms)...)} {
		n := a.Len()
		for _, x := range large() {
			if err := noWord(t, a, x); err != nil {
				t.Errorf("kind %d: %v", x.Kind, err)
			}
		}
		if a.Len() != n { // atoms within them were not asked for
			t.Errorf("%d atoms", a.Len())
		}
	}
}

func TestTermsThatMayNotBe(t *testing.T) {
	z := strings.Repeat("z", 256)
	ring := make([]api.Term, 1)
	ring[0] = tup(ring...) // it holds itself
	cases := []struct {
		x    api.Term
		kind api.Errno
		part int
	}{
		{api.Term{}, api.ErrArg, 0}, {api.Term{Kind: -1}, api.ErrArg, 0}, {api.Term{Kind: 9}, api.ErrArg, 0}, {api.Term{Kind: math.MaxInt, N: 1}, api.ErrArg, 0},
		{name(""), api.ErrArg, 0}, {name(z), api.ErrArg, 0}, {api.Term{Kind: api.Atom, Name: "new", N: 1}, api.ErrArg, 0},
		{api.Term{Kind: api.Atom, Name: "new", Items: []api.Term{num(1)}}, api.ErrArg, 0}, {api.Term{Kind: api.Atom, Name: "new", Rest: []api.Term{num(1)}}, api.ErrArg, 0}, {api.Term{Kind: api.Atom, Name: "new", Bytes: []byte{0}}, api.ErrArg, 0},
		{api.Term{Kind: api.Int, N: 1, Name: "new"}, api.ErrArg, 0}, {api.Term{Kind: api.Int, N: most60 + 1, Name: "new"}, api.ErrArg, 0},
		{ref(-1), api.ErrArg, 0}, {ref(most60 + 1), api.ErrArg, 0}, {ref(math.MinInt64), api.ErrArg, 0}, {ref(math.MaxInt64), api.ErrArg, 0},
		{pid(-1), api.ErrArg, 0}, {pid(most60 + 1), api.ErrArg, 0}, {pid(math.MinInt64), api.ErrArg, 0}, {pid(math.MaxInt64), api.ErrArg, 0},
		{api.Term{Kind: api.Pid, N: 1, Name: "new"}, api.ErrArg, 0}, {api.Term{Kind: api.Ref, Bytes: []byte{1}}, api.ErrArg, 0},
		{api.Term{Kind: api.Nil, N: 1}, api.ErrArg, 0}, {api.Term{Kind: api.Nil, Items: []api.Term{empty()}}, api.ErrArg, 0},
		{list(), api.ErrArg, 0}, {tup(name("new"), name("")), api.ErrArg, 2}, {list(num(1), tup(ref(-1))), api.ErrArg, 3}, {api.Term{Kind: api.List, Items: []api.Term{num(1)}, Rest: []api.Term{empty()}}, api.ErrArg, 0},
		{bin(make([]byte, api.MaxTerms)...), api.ErrFull, 0}, {tup(bin(make([]byte, api.MaxTerms-1)...)), api.ErrFull, 1}, {api.Term{Kind: api.Atom, Bytes: make([]byte, api.MaxTerms)}, api.ErrFull, 0},
		{ring[0], api.ErrFull, api.MaxDepth},
	}
	for _, a := range []*Atoms{NewAtoms(), table(t, names(api.MaxAtoms)...)} { // also of a full one: that a term may not be counts first
		n := a.Len()
		for _, c := range cases {
			refused(t, noWord(t, a, c.x), c.kind, link{"small", 0}, link{"term", c.part})
		}
		if a.Len() != n {
			t.Errorf("%d atoms", a.Len())
		}
	}
}

func TestAtomsForWhichThereIsNoPlace(t *testing.T) {
	all := names(api.MaxAtoms)
	a := table(t, all...)
	refused(t, noWord(t, a, name("more")), api.ErrFull, link{"small", 0}, link{"atom", 4})
	refused(t, noWord(t, a, name(strings.Repeat("z", 255))), api.ErrFull, link{"small", 0}, link{"atom", 255})
	for i, s := range all {
		isSmall(t, a, name(s), uint64(8*i+1))
	}
	isSmall(t, a, num(7), 56)
	isTable(t, a, all...)
}

func TestAtomsThatAreNotThere(t *testing.T) {
	for _, a := range []*Atoms{NewAtoms(), table(t, "a"), table(t, names(api.MaxAtoms)...)} {
		n := uint64(a.Len())
		for _, k := range []uint64{n, n + 1, n + 2, api.MaxAtoms, 1 << 20, 1 << 31, 1 << 32, 1 << 60, 1<<61 - 1} {
			refused(t, noTerm(t, a, 8*k+1), api.ErrNone, link{"plain", 1})
		}
		if a.Len() != int(n) {
			t.Errorf("%d atoms", a.Len())
		}
	}
	a := table(t, "a", "b")
	isPlain(t, a, 9, name("b"))
	refused(t, noTerm(t, a, 17), api.ErrNone, link{"plain", 1})
	isNumber(t, a, "c", 2)
	isPlain(t, a, 17, name("c"))
}

func TestWordsThatMayNotBe(t *testing.T) {
	a := table(t, "a")
	for _, n := range []uint64{1, 2, 3, 1 << 20, most60, 1 << 60, 1<<61 - 1} {
		refused(t, noTerm(t, a, 8*n+4), api.ErrArg, link{"plain", 4})
	}
	for _, tag := range []uint64{2, 3} {
		for _, n := range []uint64{1 << 60, 1<<60 + 1, 1<<61 - 2, 1<<61 - 1} {
			refused(t, noTerm(t, a, 8*n+tag), api.ErrArg, link{"plain", int(tag)})
		}
	}
}

func TestWordsOfBlocksHandlesAndMarks(t *testing.T) {
	a := table(t, "a")
	for tag := uint64(5); tag <= 7; tag++ {
		for _, n := range []uint64{0, 1, 25, api.MaxWords, most60, 1 << 60, 1<<61 - 1} {
			if err := noTerm(t, a, 8*n+tag); err != nil {
				t.Errorf("%#x: %v", 8*n+tag, err)
			}
		}
	}
}

// P4.4

// small is a term that has a word; its atom is one of some 2000.
func small(r *rand.Rand) api.Term {
	n := int64(r.Uint64()) >> r.Intn(64)
	switch r.Intn(5) {
	case 0:
		return num(n >> 3)
	case 1:
		return ref(n & most60)
	case 2:
		return pid(n & most60)
	case 3:
		return empty()
	default:
		return name("a" + strconv.Itoa(r.Intn(2000)))
	}
}

func TestPlainOfSmall(t *testing.T) {
	r := rand.New(rand.NewSource(4))
	a := NewAtoms()
	words := map[uint64]api.Term{}
	for range 20000 {
		x := small(r)
		w, ok, err := Small(x, a)
		if err != nil && x.Kind == api.Atom && a.Len() == api.MaxAtoms {
			refused(t, err, api.ErrFull, link{"small", 0}, link{"atom", len(x.Name)})
			continue
		}
		if !ok || err != nil {
			t.Fatalf("%v: %v, %v", x, ok, err)
		}
		if y, ok := words[w]; ok && !tree.Equal(x, y) {
			t.Fatalf("%#x is the word of %v and of %v", w, x, y)
		}
		words[w] = x
	}
	if a.Len() != api.MaxAtoms {
		t.Errorf("%d atoms", a.Len())
	}
	for w, x := range words {
		isPlain(t, a, w, x)
	}
}

// Small(Plain(w)) is w, whatever word is taken.
func TestSmallOfPlain(t *testing.T) {
	r := rand.New(rand.NewSource(5))
	a := table(t, names(50)...)
	taken := 0
	for range 20000 {
		w := r.Uint64()>>r.Intn(64)&^7 | uint64(r.Intn(8))
		x, ok, err := Plain(w, a)
		if !ok || err != nil {
			noTerm(t, a, w)
			continue
		}
		taken++
		isSmall(t, a, x, w)
	}
	if taken < 5000 || a.Len() != 50 {
		t.Errorf("%d words, %d atoms", taken, a.Len())
	}
}
