package heap_test

import (
	"math"
	"slices"
	"strconv"
	"strings"
	"testing"

	"troupe/api"
	"troupe/tree"
	"troupe/word"
)

// The example of the chapter.
func TestExample(t *testing.T) {
	k := fresh(t)
	if w := k.text(t, "{1,[2]}"); w != 45 {
		t.Fatalf("%d, not 45", w)
	}
	k.hasBlocks(t, 1, 5)
	k.isBlock(t, 1, mark(pairMark, 2), small(2), nilWord)
	k.isBlock(t, 5, mark(tupleMark, 2), small(1), block(1))
	k.loads(t, 45, term(t, "{1,[2]}"))
}

// P6.2

func TestSmallTermsAreWords(t *testing.T) {
	k := fresh(t)
	cases := []struct {
		x    api.Term
		want uint64
	}{
		{num(0), 0}, {num(5), 40}, {num(-1), 1<<64 - 8},
		{num(-1 << 60), 1 << 63}, {num(1<<60 - 1), (1<<60 - 1) << 3},
		{atom("first"), 1}, {atom("second"), 9}, {atom("first"), 1}, {atom("\xff\x00'"), 17},
		{pid(7), 58}, {pid(0), 2}, {pid(1<<60 - 1), (1<<60-1)<<3 | 2},
		{ref(7), 59}, {ref(0), 3}, {ref(1<<60 - 1), (1<<60-1)<<3 | 3},
		{empty(), nilWord},
	}
	for _, c := range cases {
		if w := k.stores(t, c.x); w != c.want {
			t.Errorf("%+v: %d, not %d", c.x, w, c.want)
		}
		k.loads(t, c.want, c.x)
	}
	if k.atoms.Len() != 3 {
		t.Errorf("%d atoms", k.atoms.Len())
	}
	k.isEmpty(t) // they want no block
	tiny := sized(t, 2, 1, k.atoms, bins(t, 1, 0))
	for _, c := range cases { // and no room
		if w := tiny.stores(t, c.x); w != c.want {
			t.Errorf("%+v: %d, not %d", c.x, w, c.want)
		}
	}
}

func TestNumbersBeyondSmallOnes(t *testing.T) {
	k := fresh(t)
	at := 1
	for _, n := range []int64{-1<<60 - 1, 1 << 60, 1<<60 + 1, math.MinInt64, math.MaxInt64} {
		if w := k.stores(t, num(n)); w != block(at) {
			t.Errorf("%d: %d, not block %d", n, w, at)
		}
		k.isBlock(t, at, mark(numberMark, 0), uint64(n))
		k.loads(t, block(at), num(n))
		at += 4 // 2 words want 4 places with the arena's own
	}
	if w := k.stores(t, num(-1<<60)); w != 1<<63 {
		t.Errorf("%d", w)
	}
	if k.Used() != 20 {
		t.Errorf("%d used", k.Used())
	}
}

func TestTuples(t *testing.T) {
	k := fresh(t)
	if w := k.text(t, "{}"); w != block(1) {
		t.Fatalf("%d", w)
	}
	k.isBlock(t, 1, mark(tupleMark, 0))
	if k.Used() != 2 {
		t.Fatalf("%d used", k.Used())
	}
	if w := k.text(t, "{1,a,[],#p2,#r3}"); w != block(3) {
		t.Fatalf("%d", w)
	}
	k.isBlock(t, 3, mark(tupleMark, 5), small(1), atomWord(0), nilWord, small(2)|2, small(3)|3)
	k.loads(t, block(1), tup())
	k.loads(t, block(3), tup(num(1), atom("a"), empty(), pid(2), ref(3)))
}

func TestATuplesItemsAreLaidInOrder(t *testing.T) {
	k := fresh(t)
	if w := k.stores(t, tup(tup(), big(1), tup(tup(num(8))))); w != block(15) {
		t.Fatalf("%d", w)
	}
	k.isBlock(t, 1, mark(tupleMark, 0))
	k.isBlock(t, 3, mark(numberMark, 0), 1<<60+1)
	k.isBlock(t, 7, mark(tupleMark, 1), small(8))
	k.isBlock(t, 11, mark(tupleMark, 1), block(7))
	k.isBlock(t, 15, mark(tupleMark, 3), block(1), block(3), block(11))
	k.hasBlocks(t, 1, 3, 7, 11, 15)
}

func TestLists(t *testing.T) {
	k := fresh(t)
	if w := k.text(t, "[1,2|3]"); w != block(5) {
		t.Fatalf("%d", w)
	}
	k.isBlock(t, 1, mark(pairMark, 2), small(2), small(3))
	k.isBlock(t, 5, mark(pairMark, 2), small(1), block(1))
	k.loads(t, block(5), term(t, "[1,2|3]"))
	k.loads(t, block(1), term(t, "[2|3]"))
	k.hasBlocks(t, 1, 5)
	if w := k.text(t, "[a]"); w != block(9) {
		t.Fatalf("%d", w)
	}
	k.isBlock(t, 9, mark(pairMark, 2), atomWord(0), nilWord)
	k.loads(t, block(9), list(atom("a")))
}

func TestAListIsLaidFromItsEnd(t *testing.T) {
	k := fresh(t)
	w := k.stores(t, ending(big(3), big(1), big(2))) // blocks of 4 places each
	if w != block(17) {
		t.Fatalf("%d", w)
	}
	k.isBlock(t, 1, mark(numberMark, 0), 1<<60+3)          // its Rest
	k.isBlock(t, 5, mark(numberMark, 0), 1<<60+2)          // its last item
	k.isBlock(t, 9, mark(pairMark, 2), block(5), block(1)) // that one's pair
	k.isBlock(t, 13, mark(numberMark, 0), 1<<60+1)         // its first item
	k.isBlock(t, 17, mark(pairMark, 2), block(13), block(9))
	k.hasBlocks(t, 1, 5, 9, 13, 17)
}

func TestAtomsAreNumberedAsTheyAreLaid(t *testing.T) {
	k := fresh(t)
	k.stores(t, tup(atom("b"), ending(atom("e"), atom("d"), atom("c")), atom("a"), atom("b")))
	for i, want := range []string{"b", "e", "c", "d", "a"} {
		if s, err := k.atoms.Name(i); s != want || err != nil {
			t.Errorf("%d: %q, not %q: %v", i, s, want, err)
		}
	}
	if k.atoms.Len() != 5 {
		t.Errorf("%d atoms", k.atoms.Len())
	}
	k.isBlock(t, 1, mark(pairMark, 2), atomWord(2), atomWord(1))
	k.isBlock(t, 5, mark(pairMark, 2), atomWord(3), block(1))
	k.isBlock(t, 9, mark(tupleMark, 4), atomWord(0), block(5), atomWord(4), atomWord(0))
	w := k.stores(t, tup(atom("f"), atom("a"), atom("g"), atom("f"))) // some are there, some are new
	k.isBlock(t, nameOf(w), mark(tupleMark, 4), atomWord(5), atomWord(4), atomWord(6), atomWord(5))
	if k.atoms.Len() != 7 {
		t.Errorf("%d atoms", k.atoms.Len())
	}
}

func TestBinaries(t *testing.T) {
	k := fresh(t)
	if w := k.stores(t, bin("abc")); w != block(1) {
		t.Fatalf("%d", w)
	}
	k.isBlock(t, 1, mark(binaryMark, 1), handleWord(0), 0, 3)
	if w := k.stores(t, bin("")); w != block(9) { // no bytes have a handle too
		t.Fatalf("%d", w)
	}
	k.isBlock(t, 9, mark(binaryMark, 1), handleWord(1), 0, 0)
	w := k.stores(t, tup(bin("abc"), bin("abc"))) // the same bytes: handles of their own
	k.isBlock(t, nameOf(w), mark(tupleMark, 2), block(17), block(25))
	k.isBlock(t, 17, mark(binaryMark, 1), handleWord(2), 0, 3)
	k.isBlock(t, 25, mark(binaryMark, 1), handleWord(3), 0, 3)
	for n, s := range []string{"abc", "", "abc", "abc"} {
		if b, err := k.bins.Bytes(n); string(b) != s || err != nil {
			t.Errorf("%d: %q, %v", n, b, err)
		}
		k.hasCount(t, n, 1)
	}
	k.loads(t, block(1), bin("abc"))
	k.loads(t, block(9), bin(""))
	k.loads(t, w, tup(bin("abc"), bin("abc")))
	if !slices.Equal(k.bins.Handles(), []int{0, 1, 2, 3}) || k.bins.Used() != 9 {
		t.Errorf("%v, %d", k.bins.Handles(), k.bins.Used())
	}
}

func TestHandlesOfLaterGenerations(t *testing.T) {
	k := fresh(t)
	for range 3 {
		n := k.puts(t, "x")
		if err := k.bins.Drop(n); err != nil {
			t.Fatal(err)
		}
	}
	k.stores(t, bin("new"))
	k.isBlock(t, 1, mark(binaryMark, 1), handleWord(3*api.MaxHandles), 0, 3)
	k.loads(t, block(1), bin("new"))
}

func TestTermsThatMayNotBe(t *testing.T) {
	k := fresh(t)
	k.text(t, "{a,[1],<<1>>}")
	cases := []struct {
		x    api.Term
		part int
	}{
		{api.Term{}, 0},
		{api.Term{Kind: 9}, 0},
		{api.Term{Kind: api.List}, 0}, // a list of nothing is Nil
		{api.Term{Kind: api.Atom}, 0},
		{atom(strings.Repeat("x", 256)), 0},
		{ref(-1), 0}, {pid(1 << 60), 0},
		{api.Term{Kind: api.Tuple, N: 1}, 0},
		{ending(empty(), num(1)), 0},
		{ending(list(num(2)), num(1)), 0},
		{api.Term{Kind: api.List, Items: many(1), Rest: many(2)}, 0},
		{tup(big(1), bin("abc"), atom("new"), api.Term{}), 4},
		{list(big(1), tup(num(1), ref(-1))), 4},
		{ending(ref(-1), bin("x")), 2},
	}
	for _, c := range cases {
		k.noStore(t, c.x, api.ErrArg, link{"term", c.part})
		if err := tree.Right(c.x); err == nil {
			t.Errorf("%+v may be", c.x)
		}
	}
}

func TestAsDeepAsMayBe(t *testing.T) {
	k := roomy(t)
	for _, inner := range []api.Term{num(1), big(1), bin("ab"), tup()} {
		x := deep(api.MaxDepth-1, inner)
		k.loads(t, k.stores(t, x), x)
		k.noStore(t, deep(api.MaxDepth, inner), api.ErrFull, link{"term", api.MaxDepth})
	}
	x := num(1)
	for range api.MaxDepth - 1 {
		x = list(num(0), x)
	}
	k.loads(t, k.stores(t, x), x)
	k.noStore(t, list(x), api.ErrFull, link{"term", 2*api.MaxDepth - 2})
	x = num(1)
	for range (api.MaxDepth - 1) / 2 { // by their rests
		x = ending(tup(x), num(0))
	}
	k.loads(t, k.stores(t, tup(x)), tup(x))
	k.noStore(t, tup(tup(x)), api.ErrFull, link{"term", 299})
}

func TestAsManyPartsAsMayBe(t *testing.T) {
	const most = api.MaxTerms - 1 // beside what they are parts of
	bytes := strings.Repeat("b", most)
	for _, x := range []api.Term{tup(many(most)...), list(many(most)...), ending(atom("end"), many(most-1)...), bin(bytes), tup(bin(bytes[:most/2]), bin(bytes[:most/2-1]))} {
		k := roomy(t)
		k.loads(t, k.stores(t, x), x)
		k.hasWords(t, k.stores(t, x), tree.Words(x))
	}
	k := roomy(t)
	k.noStore(t, tup(many(most+1)...), api.ErrFull, link{"term", api.MaxTerms})
	k.noStore(t, list(many(most+1)...), api.ErrFull, link{"term", api.MaxTerms})
	k.noStore(t, ending(atom("end"), many(most)...), api.ErrFull, link{"term", api.MaxTerms})
	k.noStore(t, bin(bytes+"b"), api.ErrFull, link{"term", 0})
	k.noStore(t, tup(bin(bytes)), api.ErrFull, link{"term", 1})
}

func TestATermThatHoldsItself(t *testing.T) {
	k := fresh(t)
	items := many(2)
	items[1] = api.Term{Kind: api.Tuple, Items: items}
	before := k.state()
	if w, err := k.Store(items[1]); w != 0 || err == nil {
		t.Errorf("%d, %v", w, err)
	}
	k.isAs(t, before)
}

// parts is a term with parts of each kind.
func parts() api.Term {
	return tup(bin("abc"), list(atom("x"), big(1), bin("de")), atom("y"), ending(atom("z"), tup(atom("x"))))
}

// places are how many places of the arena it wants: three pairs, one number, two binaries of 8, tuples of 1 and of 4.
const places = 4*4 + 4 + 2*8 + 4 + 8

func TestNoRoomInTheArena(t *testing.T) {
	a := word.NewAtoms()
	for _, s := range []string{"x", "y", "z"} {
		if _, err := a.Number(s); err != nil {
			t.Fatal(err)
		}
	}
	for quota := 1; quota < places; quota++ {
		k := sized(t, 64, quota, a, bins(t, 9, 99))
		w, err := k.Store(parts())
		if w != 0 || err == nil || err.Error() != "store: alloc: full" {
			t.Fatalf("%d: %d, %v", quota, w, err)
		}
		if k.Used() != 0 || len(k.Blocks()) != 0 || k.bins.Used() != 0 || len(k.bins.Handles()) != 0 {
			t.Fatalf("%d: %d used, blocks %v; %d bytes, handles %v", quota, k.Used(), k.Blocks(), k.bins.Used(), k.bins.Handles())
		}
		k.text(t, "7")
	}
	k := sized(t, 64, places, a, bins(t, 9, 99))
	k.loads(t, k.stores(t, parts()), parts())
	if k.Used() != places {
		t.Errorf("%d used", k.Used())
	}
}

func TestNoRoomBesideOthers(t *testing.T) {
	for quota := 16 + 4; quota <= 16+4+places; quota++ {
		k := sized(t, 128, quota, word.NewAtoms(), bins(t, 9, 99))
		held := k.stores(t, tup(bin("held"), num(2))) // 8 and 4 places
		k.Hold(held)
		k.raw(t, 1, 2)
		fill(t, k.atoms, 2)
		for _, s := range []string{"x", "y", "z"} {
			k.stores(t, atom(s))
		}
		if quota < 16+places {
			for range 3 {
				before := k.state()
				if w, err := k.Store(parts()); w != 0 || err == nil {
					t.Fatalf("%d: %d, %v", quota, w, err)
				}
				k.isAs(t, before)
				k.loads(t, held, tup(bin("held"), num(2)))
			}
			continue
		}
		k.loads(t, k.stores(t, parts()), parts())
		k.loads(t, held, tup(bin("held"), num(2)))
	}
}

func TestWhichBlockHasNoRoom(t *testing.T) {
	cases := []struct {
		quota int
		x     api.Term
		n     int
	}{
		{1, tup(), 1},                               // the first one
		{3, big(1), 2},                              //
		{3, list(num(1)), 3},                        //
		{7, bin("abc"), 4},                          // (its bytes were put)
		{7, tup(big(1), big(2)), 2},                 // a later part
		{11, tup(big(1), big(2), num(3)), 4},        // itself
		{4, tup(big(1), num(2), num(3)), 4},         //
		{8, list(big(1), big(2)), 2},                // the last item and its pair have room, the first one has none
		{12, list(big(1), big(2)), 3},               // but its pair
		{4, ending(big(3), big(1)), 2},              // the Rest has
		{2, tup(tup(), bin("x"), tup()), 4},         //
		{2 + 8, tup(tup(), bin("x"), tup()), 1},     //
		{2 + 8 + 2, tup(tup(), bin("x"), tup()), 4}, //
	}
	for i, c := range cases {
		k := sized(t, 64, c.quota, word.NewAtoms(), bins(t, 9, 99))
		t.Logf("case %d", i)
		k.noStore(t, c.x, api.ErrFull, link{"alloc", c.n})
	}
}

func TestNoRoomAmongTheAtoms(t *testing.T) {
	k := roomy(t)
	k.stores(t, tup(big(1), bin("held")))
	fill(t, k.atoms, api.MaxAtoms)
	k.noStore(t, atom("a"), api.ErrFull, link{"atom", 1}) // the first part
	k.noStore(t, atom(strings.Repeat("n", 255)), api.ErrFull, link{"atom", 255})
	k.noStore(t, tup(bin("abc"), big(2), atom("new"), atom("newer")), api.ErrFull, link{"atom", 3}) // a later one
	k.noStore(t, list(atom("new"), bin("abc"), atom("newer")), api.ErrFull, link{"atom", 5})        // from its end on
	k.noStore(t, ending(atom("newest"), atom("newer")), api.ErrFull, link{"atom", 6})
	x := tup(atom("filled0"), atom("filled"+strconv.Itoa(api.MaxAtoms-1))) // those that are there
	k.loads(t, k.stores(t, x), x)
	if k.atoms.Len() != api.MaxAtoms {
		t.Errorf("%d", k.atoms.Len())
	}
}

func TestTheLastRoomAmongTheAtoms(t *testing.T) {
	k := roomy(t)
	fill(t, k.atoms, api.MaxAtoms-2)
	k.noStore(t, tup(atom("one"), bin("x"), atom("two"), atom("filled0"), atom("one"), atom("three")), api.ErrFull, link{"atom", 5})
	x := tup(atom("one"), bin("x"), atom("two"), atom("filled0"), atom("one"))
	k.loads(t, k.stores(t, x), x)
	if k.atoms.Len() != api.MaxAtoms {
		t.Errorf("%d", k.atoms.Len())
	}
	k.noStore(t, atom("three"), api.ErrFull, link{"atom", 5})
}

func TestAllAtomsInOneTerm(t *testing.T) {
	k := roomy(t)
	var items []api.Term
	for i := range api.MaxAtoms {
		items = append(items, atom("a"+strconv.Itoa(i)))
	}
	items = append(items, items...)
	w := k.stores(t, tup(items...))
	k.loads(t, w, tup(items...))
	if s, err := k.atoms.Name(api.MaxAtoms - 1); s != "a1023" || err != nil {
		t.Errorf("%q, %v", s, err)
	}
	k.noStore(t, tup(append(items, atom("more"))...), api.ErrFull, link{"atom", 4})
}

func TestNoRoomAmongTheBinaries(t *testing.T) {
	k := sized(t, 1000, 1000, word.NewAtoms(), bins(t, 2, 10))
	k.noStore(t, bin("12345678901"), api.ErrFull, link{"put", 11}) // the first part: its bytes
	k.noStore(t, tup(bin("12345"), big(1), bin("123456")), api.ErrFull, link{"put", 6})
	k.noStore(t, list(bin("123456"), bin("12345")), api.ErrFull, link{"put", 6})      // from its end on
	k.noStore(t, tup(bin(""), bin("1"), tup(bin("22"))), api.ErrFull, link{"put", 2}) // slots
	k.stores(t, bin("held"))
	k.noStore(t, tup(bin("1"), bin("")), api.ErrFull, link{"put", 0})
	k.noStore(t, bin("7654321"), api.ErrFull, link{"put", 7})
	k.stores(t, bin("654321"))
	k.noStore(t, bin(""), api.ErrFull, link{"put", 0})
	none := sized(t, 1000, 1000, word.NewAtoms(), bins(t, 1, 0))
	none.noStore(t, bin("x"), api.ErrFull, link{"put", 1})
	none.loads(t, none.stores(t, bin("")), bin(""))
}

func TestWhatIsMetFirst(t *testing.T) {
	full := word.NewAtoms()
	fill(t, full, api.MaxAtoms)
	wrong := api.Term{Kind: api.Atom}
	cases := []struct {
		x     api.Term
		root  api.Errno
		links []link
	}{
		{tup(atom("new"), big(1), bin("bytes")), api.ErrFull, []link{{"atom", 3}}},
		{tup(big(1), atom("new"), bin("bytes")), api.ErrFull, []link{{"alloc", 2}}},
		{tup(bin("bytes"), big(1), atom("new")), api.ErrFull, []link{{"put", 5}}},
		{tup(bin(""), bin("bytes"), atom("new")), api.ErrFull, []link{{"alloc", 4}}}, // its bytes have room, its block has none
		{list(atom("new"), big(1), bin("bytes")), api.ErrFull, []link{{"put", 5}}},
		{list(bin("bytes"), atom("new"), big(1)), api.ErrFull, []link{{"alloc", 2}}},
		{list(bin("bytes"), big(1), atom("new")), api.ErrFull, []link{{"atom", 3}}},
		{ending(atom("new"), big(1), bin("bytes")), api.ErrFull, []link{{"atom", 3}}},
		{ending(bin("bytes"), atom("new"), big(1)), api.ErrFull, []link{{"put", 5}}},
		{list(num(1), atom("new")), api.ErrFull, []link{{"atom", 3}}},
		{list(atom("new"), num(1)), api.ErrFull, []link{{"alloc", 3}}},           // the last item's pair
		{tup(atom("new"), bin("bytes"), wrong), api.ErrArg, []link{{"term", 3}}}, // what may not be counts ahead of all
		{deep(api.MaxDepth, bin("bytes")), api.ErrFull, []link{{"term", api.MaxDepth}}},
	}
	for i, c := range cases {
		t.Logf("case %d", i)
		sized(t, 2, 1, full, bins(t, 1, 4)).noStore(t, c.x, c.root, c.links...)
	}
}

func TestTheLastOneIsGivenBackFirst(t *testing.T) {
	k := sized(t, 64, 12, word.NewAtoms(), bins(t, 9, 99))
	k.noStore(t, tup(big(1), big(2), big(3), big(4)), api.ErrFull, link{"alloc", 2}) // 1, 5, 9 were laid
	for _, want := range []int{1, 5, 9} {                                            // so the one that was laid first was freed last
		if p, err := k.Alloc(2); p != want || err != nil {
			t.Errorf("%d, not %d: %v", p, want, err)
		}
	}
	k = sized(t, 64, 64, word.NewAtoms(), bins(t, 3, 99))
	k.noStore(t, tup(bin("a"), bin("b"), bin("c"), bin("d")), api.ErrFull, link{"put", 1})
	for at := range 3 {
		if n := k.puts(t, "x"); n != at+api.MaxHandles {
			t.Errorf("handle %d, not %d", n, at+api.MaxHandles)
		}
	}
}

func TestABlockThatIsUsedAnew(t *testing.T) {
	k := fresh(t)
	k.raw(t, 9, 9, 9, 9, 9)
	if err := k.Free(1); err != nil {
		t.Fatal(err)
	}
	if w := k.stores(t, tup(many(4)...)); w != block(1) {
		t.Fatalf("%d", w)
	}
	k.isBlock(t, 1, mark(tupleMark, 4), 0, small(1), small(2), small(3))
}

// R3

func TestWhatIsStoredIsNotKept(t *testing.T) {
	k := fresh(t)
	items := append(make([]api.Term, 0, 10), bin("abc"), list(num(1), num(2)), big(3))
	rest := []api.Term{bin("rest")}
	x := api.Term{Kind: api.List, Items: items, Rest: rest}
	w := k.stores(t, x)
	if !same(x, ending(bin("rest"), bin("abc"), list(num(1), num(2)), big(3))) || !same(items[:10][3], api.Term{}) {
		t.Fatal("the term is turned")
	}
	items[0].Bytes[1] = '!'
	items[1].Items[0] = atom("turned")
	items[2] = num(9)
	rest[0].Bytes[0] = '!'
	rest[0] = num(5)
	k.loads(t, w, ending(bin("rest"), bin("abc"), list(num(1), num(2)), big(3)))
}
