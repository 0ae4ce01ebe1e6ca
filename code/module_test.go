package code_test

import (
	"bytes"
	"math/rand"
	"slices"
	"strings"
	"testing"

	"troupe/api"
	"troupe/code"
)

// P9.1, P9.2: modules as a whole.

// small is a module with something of everything, and its bytes.
func small(t *testing.T) (api.Module, []byte) {
	t.Helper()
	m := api.Module{
		Name: "mo",
		Lits: []api.Term{num(-300), open(atom("a"), tup(bin(7, 8)))},
		Funcs: []api.Func{
			{Name: "f", Args: 200, Slots: 3, Code: []api.Ins{{Op: 1, A: 2, B: -3, C: 64}, {Op: 255}}},
			{},
		},
	}
	return m, bytesOf(t, "54525045 02 6d6f 02 01d704 07010501080207080102 0161 02 0166 c801 03 02 01 04 05 8001 ff 00 00 00 00 00 00 00")
}

func TestTheChaptersExamples(t *testing.T) {
	goes(t, "nothing", api.Module{}, []byte{0x54, 0x52, 0x50, 0x45, 0, 0, 0})
	refusesBytes(t, "54 52", []byte{0x54, 0x52}, 2)
}

func TestSmallModule(t *testing.T) {
	m, b := small(t)
	goes(t, "small", m, b)
}

func TestModules(t *testing.T) {
	all := "\x00\x01\x7f\x80\xff TRPE\xc3\xa9"
	for name, m := range map[string]api.Module{
		"a name":              {Name: "m"},
		"a name of any bytes": {Name: all},
		"a long name":         {Name: strings.Repeat(all, 5000)},
		"a name like numbers": {Name: "\x80\x80\x80\x80\x80\x80"},
		"names":               {Funcs: []api.Func{{Name: all}, {Name: ""}, {Name: all}, {Name: strings.Repeat("f", 70000)}}},
		"literals":            {Lits: []api.Term{null(), null(), tup(), num(0)}},
		"empty lists":         {Lits: []api.Term{}, Funcs: []api.Func{{Code: []api.Ins{}}}},
		"empty lists within":  {Lits: []api.Term{{Kind: api.Tuple, Items: []api.Term{}, Rest: []api.Term{}, Bytes: []byte{}}, {Kind: api.List, Items: nulls(1), Rest: []api.Term{}}, {Kind: api.Bin, Bytes: []byte{}}}},
		"functions":           {Funcs: make([]api.Func, 1000)},
		"no such Ops":         {Funcs: []api.Func{{Code: []api.Ins{{}, {Op: 42, A: -1}, {Op: 255, C: 9}}}}},
		"more than may run":   {Lits: slices.Repeat(nulls(1), api.MaxTerms+1), Funcs: []api.Func{{Args: 9, Slots: 33, Code: make([]api.Ins, api.MaxCode+1)}}},
	} {
		goes(t, name, m, slowWrite(m))
	}
}

// tooSoon is where a cut module ends, as the chapter has it: at its end, but for a count that is greater than what is left.
func tooSoon(t *testing.T, b []byte) int {
	t.Helper()
	_, place, chain := slowRead(b)
	if place < 0 || chain != nil {
		t.Fatalf("%.99x: %d, %v", b, place, chain)
	}
	return place
}

// Where the small module is refused when it is cut, told by hand: at a count of more than is left, or at the end.
func TestCutSmallModule(t *testing.T) {
	_, b := small(t)
	places := []int{
		0, 1, 2, 3, // the first four bytes
		4, 4, 4, // the name
		7, 7, 7, // two literals have two bytes at least
		10, 11, // the first one
		12, 12, 14, 14, 16, 16, 16, // the second one, its item, the bytes in that
		19, 20, 21, 21, // whether it has a Rest, and that
		23, 23, 23, // two functions have two bytes at least
		26, 27, 28, // Args, Slots
		29, 29, 29, // two instructions have two bytes at least
		32, 33, 34, // B, C
		35, 36, 37, 38, // the second one
		39, 40, 41, 42, // the second function
	}
	if len(places) != len(b) {
		t.Fatalf("%d places, %d bytes", len(places), len(b))
	}
	for n, place := range places {
		refusesBytes(t, "cut", b[:n], place)
	}
}

func TestCutAnywhere(t *testing.T) {
	for _, m := range randomModules(300, 5) {
		b := written(t, m)
		for n := range b {
			refusesBytes(t, "cut", b[:n], tooSoon(t, b[:n]))
		}
	}
}

// Bytes behind a module are wrong at the first of them.
func TestBytesBehind(t *testing.T) {
	_, b := small(t)
	all := append(randomModules(100, 5), api.Module{}, module(null()))
	for i, m := range all {
		b = written(t, m)
		for _, tail := range [][]byte{{0}, {1}, {6}, {128}, {255}, {0, 0, 0, 0}, b, bytes.Repeat([]byte{128}, 20)} {
			refusesBytes(t, "behind", append(slices.Clone(b), tail...), len(b))
		}
		if i > 2 {
			continue
		}
		for n := range 256 {
			refusesBytes(t, "behind", append(slices.Clone(b), byte(n)), len(b))
		}
	}
}

// Each of the first four bytes stands where it stands.
func TestTheFirstFourBytes(t *testing.T) {
	_, whole := small(t)
	for _, b := range [][]byte{whole, whole[:4], {0x54, 0x52, 0x50, 0x45, 0, 0, 0}} {
		for i := range 4 {
			for n := range 256 {
				turned := slices.Clone(b)
				turned[i] = byte(n)
				if turned[i] != b[i] {
					refusesBytes(t, "turned", turned, i)
					refusesBytes(t, "turned, cut", turned[:i+1], i)
				}
			}
			refusesBytes(t, "cut", b[:i], i)
		}
	}
	for i := range 3 {
		turned := slices.Clone(whole)
		turned[i], turned[i+1], turned[3] = 0, 0, 0
		refusesBytes(t, "the first that is wrong", turned, i)
	}
	refusesBytes(t, "nothing", nil, 0)
	refusesBytes(t, "nothing", []byte{}, 0)
	refusesBytes(t, "small letters", []byte("trpe\x00\x00\x00"), 0)
	refusesBytes(t, "the other way round", []byte("EPRT\x00\x00\x00"), 0)
	refusesBytes(t, "something ahead", append([]byte{0}, whole...), 0)
}

func TestThereAndBack(t *testing.T) {
	for _, m := range randomModules(3000, 8) {
		goes(t, "by chance", m, slowWrite(m))
	}
}

// agrees asks Read of what the slow reader says of bytes; and what is read, to be written as these bytes.
func agrees(t *testing.T, b []byte) (taken bool) {
	t.Helper()
	want, place, chain := slowRead(b)
	switch {
	case chain != nil:
		f := chain.(*api.Fault)
		refusesTerm(t, "like the slow reader", b, place, f.Err.(api.Errno), f.N)
		return false
	case place >= 0:
		refusesBytes(t, "like the slow reader", b, place)
		return false
	}
	m, err := code.Read(b)
	if err != nil || !sameModule(m, want) {
		t.Errorf("%.99x: %.999s, %v, not %.999s", b, text(m), err, text(want))
		return true
	}
	if again, err := code.Write(m); err != nil || !bytes.Equal(again, b) {
		t.Errorf("%.99x is written as %.99x, %v", b, again, err)
	}
	return true
}

// Modules with one byte, or some, turned, put in, or left out.
func TestTurnedModules(t *testing.T) {
	r := rand.New(rand.NewSource(99))
	taken := 0
	look := func(b []byte) {
		if agrees(t, b) {
			taken++
		}
	}
	_, b := small(t)
	for i := range b {
		for n := range 256 {
			turned := slices.Clone(b)
			turned[i] = byte(n)
			look(turned)
			look(slices.Insert(slices.Clone(b), i, byte(n)))
		}
		look(slices.Delete(slices.Clone(b), i, i+1))
	}
	for _, m := range randomModules(400, 5) {
		b := written(t, m)
		for range 60 {
			turned := slices.Clone(b)
			for range 1 + r.Intn(3) {
				i, values := r.Intn(len(turned)), []byte{0, 1, 2, 5, 6, 7, 8, 127, 128, 255, byte(r.Intn(256)), turned[r.Intn(len(turned))]}
				switch n := values[r.Intn(len(values))]; r.Intn(4) {
				case 0:
					turned = slices.Insert(turned, i, n)
				case 1:
					if len(turned) > 1 {
						turned = slices.Delete(turned, i, i+1)
					}
				default:
					turned[i] = n
				}
			}
			look(turned)
		}
	}
	if taken < 1000 {
		t.Errorf("no more than %d were taken", taken)
	}
}

// All short modules of some bytes.
func TestAllShortModules(t *testing.T) {
	letters := []byte{0, 1, 2, 3, 5, 7, 8, 128, 255}
	taken := 0
	var grow func(b []byte, n int)
	grow = func(b []byte, n int) {
		if agrees(t, b) {
			taken++
		}
		for _, x := range letters {
			if n > 0 {
				grow(append(b[:len(b):len(b)], x), n-1)
			}
		}
	}
	grow([]byte("TRPE"), 5)
	grow([]byte("TRPE\x00\x01"), 5) // a literal
	grow([]byte("TRPE\x00\x01\x07\x01"), 5)
	grow([]byte("TRPE\x00\x00\x01\x00\x00\x00"), 5) // instructions
	if taken < 100 {
		t.Errorf("no more than %d were taken", taken)
	}
}

// What is wrong at a byte is refused there, whatever stands behind it.
func TestThePlaceHangsOnWhatIsAheadOfIt(t *testing.T) {
	r := rand.New(rand.NewSource(3))
	looked := 0
	for _, m := range randomModules(2000, 5) {
		b := written(t, m)
		b[r.Intn(len(b))] ^= 1 << r.Intn(8)
		_, err := code.Read(b)
		f, ok := err.(*api.Fault)
		if !ok || f.Err != error(api.ErrBytes) || f.N >= len(b) || b[f.N] > 127 { // (a number goes on behind its first byte)
			continue
		}
		looked++
		for i := f.N + 1; i < len(b); i++ {
			b[i] = byte(r.Intn(256))
		}
		refusesBytes(t, "other bytes behind", b, f.N)
	}
	if looked < 100 {
		t.Errorf("no more than %d were looked at", looked)
	}
}

// The order of what is told when a module is written: literals, functions, the first that is wrong.
func TestWriteTellsTheFirst(t *testing.T) {
	bad, right := wrongFuncs()[0], api.Func{Name: "f"}
	m := api.Module{Name: "m", Lits: []api.Term{num(1), tup(null(), atom("")), {}, null()}, Funcs: []api.Func{bad, right, bad}}
	refusesWrite(t, "a literal", m, 1, api.ErrArg, "term", 2)
	m.Lits[1] = null()
	refusesWrite(t, "the next one", m, 2, api.ErrArg, "term", 0)
	m.Lits[2] = nest(null(), api.MaxDepth)
	refusesWrite(t, "too deep", m, 2, api.ErrFull, "term", api.MaxDepth)
	m.Lits[2] = null()
	refusesWrite(t, "a function", m, 0, api.ErrArg)
	m.Funcs[0] = right
	refusesWrite(t, "the next one", m, 2, api.ErrArg)
	m.Funcs[2] = right
	goes(t, "none", m, slowWrite(m))
}

// Chains say what they are.
func TestTextsOfChains(t *testing.T) {
	_, err := code.Read(nil)
	if err == nil || err.Error() != "read: bytes" {
		t.Errorf("%v", err)
	}
	_, err = code.Read([]byte("TRPE\x00\x01\x02\x00"))
	if err == nil || err.Error() != "read: term: argument" {
		t.Errorf("%v", err)
	}
	_, err = code.Write(module(nest(null(), 300)))
	if err == nil || err.Error() != "write: term: full" {
		t.Errorf("%v", err)
	}
	_, err = code.Write(numbered(-1, 0))
	if err == nil || err.Error() != "write: argument" {
		t.Errorf("%v", err)
	}
}
