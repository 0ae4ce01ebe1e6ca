package asm_test

import (
	"bytes"
	"fmt"
	"math/rand"
	"slices"
	"strings"
	"sync"
	"testing"

	"troupe/api"
	"troupe/asm"
)

// R1, R3, R4: calls end, of the greatest modules and of any texts too; what is handed in is neither turned nor kept, answers are new memory, calls have nothing in common.

// roomy is the same module in other memory, each of its lists with spare room that holds a mark.
func roomy(m api.Module) api.Module {
	m.Lits = roomyTerms(m.Lits)
	var funcs []api.Func
	for _, f := range m.Funcs {
		code := append(slices.Clone(f.Code), ins(77), ins(77))
		f.Code = code[:len(code)-2]
		funcs = append(funcs, f)
	}
	funcs = append(funcs, fn("room"), fn("room"))
	m.Funcs = funcs[:len(funcs)-2]
	return m
}

func roomyTerms(from []api.Term) []api.Term {
	var to []api.Term
	for _, x := range from {
		b := append(slices.Clone(x.Bytes), 77, 77)
		x.Items, x.Rest, x.Bytes = roomyTerms(x.Items), roomyTerms(x.Rest), b[:len(b)-2]
		to = append(to, x)
	}
	to = append(to, atom("room"), atom("room"))
	return to[:len(to)-2]
}

// asWas tells whether a roomy module is what the module is that it was made of, and its spare room as it was.
func asWas(x, m api.Module) bool {
	for _, f := range x.Funcs {
		if !slices.Equal(f.Code[len(f.Code):len(f.Code)+2], []api.Ins{ins(77), ins(77)}) {
			return false
		}
	}
	room := x.Funcs[len(x.Funcs) : len(x.Funcs)+2]
	return sameModule(x, m) && room[0].Name == "room" && room[1].Name == "room" && termsAsWere(x.Lits)
}

func termsAsWere(x []api.Term) bool {
	for _, y := range x {
		if !bytes.Equal(y.Bytes[len(y.Bytes):len(y.Bytes)+2], []byte{77, 77}) || !termsAsWere(y.Items) || !termsAsWere(y.Rest) {
			return false
		}
	}
	room := x[len(x) : len(x)+2]
	return room[0].Name == "room" && room[1].Name == "room"
}

// samples are modules by chance, right ones and, each fifth, wrong ones.
func samples() []api.Module {
	r := rand.New(rand.NewSource(15))
	var all []api.Module
	for i := range 200 {
		m := moduleBy(r, 4, 12)
		switch i % 20 {
		case 1:
			m.Lits = append(m.Lits, api.Term{})
		case 6:
			m.Funcs[0].Args = 9
		case 11:
			m.Funcs[0].Code[0] = ins(api.OpEnd)
		case 16:
			m.Funcs = append(m.Funcs, m.Funcs[0])
		}
		all = append(all, m)
	}
	return all
}

// told is all that Text tells of a module.
func told(m api.Module) string {
	s, err := asm.Text(m)
	return fmt.Sprintf("%q %v", s, links(err))
}

// heard is all that Parse tells of a text.
func heard(s string) string {
	m, err := asm.Parse(s)
	return fmt.Sprintf("%+v %v", m, links(err))
}

func TestWhatIsHandedInIsNotTurned(t *testing.T) {
	for i, m := range samples() {
		x := roomy(m)
		if a, b, c := told(m), told(x), told(x); a != b || b != c {
			t.Errorf("%d: %s, %s, %s", i, a, b, c)
		}
		if !asWas(x, m) {
			t.Errorf("%d: turned", i)
		}
	}
}

// spoil turns all memory of a module's lists, spare room too.
func spoil(m api.Module) {
	funcs := m.Funcs[:cap(m.Funcs)]
	for i := range funcs {
		code := funcs[i].Code[:cap(funcs[i].Code)]
		for at := range code {
			code[at] = ins(78)
		}
		funcs[i] = fn("spoilt")
	}
	spoilTerms(m.Lits)
}

func spoilTerms(terms []api.Term) {
	terms = terms[:cap(terms)]
	for i, x := range terms {
		spoilTerms(x.Items)
		spoilTerms(x.Rest)
		b := x.Bytes[:cap(x.Bytes)]
		for j := range b {
			b[j] = 78
		}
		terms[i] = atom("spoilt")
	}
}

// TestAnswersAreNewMemory: no two answers share any, and none hangs on what is read later.
func TestAnswersAreNewMemory(t *testing.T) {
	for i, m := range samples() {
		s, err := asm.Text(m)
		if err != nil {
			continue
		}
		a, _ := asm.Parse(s)
		b, _ := asm.Parse(s)
		spoil(a)
		if c, _ := asm.Parse(s); !sameModule(b, m) || !sameModule(c, m) {
			t.Errorf("%d: two answers share memory", i)
		}
	}
}

// TestListsOfOneAnswer: no two of them share any memory, spare room too.
func TestListsOfOneAnswer(t *testing.T) {
	s := text("module m", "literal {1,{2},[3|4],<<5>>}", "literal {1,{2},[3|4],<<5>>}", "literal 7", "function f 0 0", "  take", "  ret", "function g 0 0", "  take", "  take", "  ret", "function h 0 0", "  ret")
	m, err := asm.Parse(s)
	if err != nil {
		t.Fatal(err)
	}
	want, _ := asm.Parse(s)
	for i := range m.Funcs {
		x := m.Funcs[i].Code
		x = x[:cap(x)]
		for at := range x {
			x[at] = ins(78)
		}
		for j := i + 1; j < len(m.Funcs); j++ {
			if !sameFunc(m.Funcs[j], want.Funcs[j]) {
				t.Errorf("the code of %d hangs on that of %d", j, i)
			}
		}
	}
	spoilTerms(m.Lits[0].Items)
	if !same(m.Lits[1], want.Lits[1]) || !same(m.Lits[2], want.Lits[2]) {
		t.Error("literals share memory")
	}
}

// TestNothingIsKept: what is told of a module hangs on what it is then; chains that were turned turn no others.
func TestNothingIsKept(t *testing.T) {
	m := least()
	goes(t, "first", text("module m", "function f 0 0", "  ret"), m)
	m.Name, m.Funcs[0].Name, m.Funcs[0].Code[0] = "n", "g", ins(api.OpLast)
	goes(t, "then", text("module n", "function g 0 0", "  last g"), m)
	wrongLine(t, "a name that was there ahead", text("module m", "function f 0 0", "  last g"), 3)
	_, err := asm.Parse("")
	f := err.(*api.Fault)
	f.Op, f.N, f.Err = "turned", 7, nil
	wrongLine(t, "behind a chain that was turned", "", 1)
	_, err = asm.Text(api.Module{})
	f = err.(*api.Fault)
	f.Op, f.N, f.Err = "turned", 7, nil
	wrongModule(t, "behind a chain that was turned", api.Module{}, api.ErrTable)
	if asm.Op("move") != 1 || asm.Op("prio") != 41 || asm.Op("hop") != 0 {
		t.Error("words are others")
	}
}

func TestCallsHaveNothingInCommon(t *testing.T) {
	r := rand.New(rand.NewSource(16))
	var want []string
	ms := samples()
	var texts []string
	for _, m := range ms {
		s := slowTextOf(m)
		for range r.Intn(3) {
			s = turn(r, s)
		}
		texts = append(texts, s)
		want = append(want, told(m)+heard(s))
	}
	var wait sync.WaitGroup
	for range 4 {
		wait.Go(func() {
			for i, m := range ms {
				if got := told(m) + heard(texts[i]); got != want[i] {
					t.Errorf("%d: %s, not %s", i, got, want[i])
				}
				if asm.Op(rows[1+i%41][0]) != 1+i%41 {
					t.Errorf("%s is another Op", rows[1+i%41][0])
				}
			}
		})
	}
	wait.Wait()
}

// slowTextOf is the text of a module, or of another one, if it is not right.
func slowTextOf(m api.Module) string {
	if s, err := asm.Text(m); err == nil {
		return s
	}
	return text("module m", "literal 1", "function f 0 0", "  end", "  ret")
}

// TestTheGreatestModules: as many functions, each with as many instructions, as there may be.
func TestTheGreatestModules(t *testing.T) {
	m := api.Module{Name: strings.Repeat("M", 255)}
	code := slices.Repeat([]api.Ins{ins(api.OpIfTuple, 47, 65536, 16383)}, 16383)
	for i := range 256 {
		name := fmt.Sprintf("%s%3d", strings.Repeat("f", 252), i)
		m.Funcs = append(m.Funcs, api.Func{Name: name, Args: 8, Slots: 32, Code: append(slices.Clone(code), ins(api.OpLast, 255-i))})
	}
	s, err := asm.Text(m)
	if err != nil {
		t.Fatal(err)
	}
	if n := 1 + 256*16385; strings.Count(s, "\n") != n {
		t.Errorf("%d lines, not %d", strings.Count(s, "\n"), n)
	}
	back, err := asm.Parse(s)
	if err != nil || !sameModule(back, m) {
		t.Errorf("not the same module: %v", err)
	}
	wrongLine(t, "a name of none, and the last line without its end", strings.Replace(strings.TrimSuffix(s, "\n"), "iftuple y31 65536 @16383", "call nope", 1), 1+256*16385)
}

// TestAnyTexts: calls end, and name a line that is there, whatever they are handed.
func TestAnyTexts(t *testing.T) {
	const many = 1 << 22
	for what, s := range map[string]string{
		"blanks": strings.Repeat(" ", many), "ends": strings.Repeat("\n", many), "quotes": strings.Repeat("'", many), "backslashes": "module '" + strings.Repeat("\\", many),
		"letters": "module " + strings.Repeat("a", many) + "\n", "no end": "module " + strings.Repeat("a", many), "a deep literal": "hop\nliteral " + strings.Repeat("{", many) + "\n",
	} {
		wrongLine(t, what, s, 1)
	}
	ahead := "module m\nfunction f 0 0\n"
	for what, line := range map[string]string{
		"blanks": strings.Repeat(" ", many), "words": "  " + strings.Repeat("x ", many), "operands": "  move " + strings.Repeat("x0 ", many), "digits": "  move x" + strings.Repeat("1", many) + " x0", "zeros": "  move x" + strings.Repeat("0", many) + " x0",
		"a name": "  call " + strings.Repeat("a", many), "a quoted name": "  call '" + strings.Repeat("A ", many) + "'", "a name without its end": "  call 'A" + strings.Repeat("\\'", many), "a term": "  call {" + strings.Repeat("1,", many) + "1}", "an Op": "  " + strings.Repeat("move", many), "a function": "function " + strings.Repeat("g", many) + " 0 0",
	} {
		wrongLine(t, what, ahead+line+"\n", 3)
	}
	wrongLine(t, "functions of no instructions", "module m\n"+strings.Repeat("function f 0 0\n", many/8), 3)
	r := rand.New(rand.NewSource(17))
	for range 20000 {
		b := make([]byte, r.Intn(40))
		r.Read(b)
		s := string(b)
		if r.Intn(2) == 0 {
			s = ahead + "  " + s
		}
		m, err := asm.Parse(s)
		f, ok := err.(*api.Fault)
		if !ok || f.Op != "line" || f.N < 1 || f.N > 1+strings.Count(s, "\n") || !sameModule(m, api.Module{}) {
			t.Errorf("%q: %v", s, err)
		}
	}
}
