package asm_test

import (
	"fmt"
	"math"
	"slices"
	"strings"
	"testing"

	"troupe/api"
	"troupe/asm"
	"troupe/tree"
)

// P11.1: literals, functions' numbers, how many functions and instructions, and what is vet's.

// forms are terms of every kind, and how each is written.
func forms() map[string]api.Term {
	return map[string]api.Term{
		"0": num(0), "-1": num(-1), "1152921504606846975": num(1<<60 - 1), "1152921504606846976": num(1 << 60),
		"9223372036854775807": num(math.MaxInt64), "-9223372036854775808": num(math.MinInt64),
		"a": atom("a"), "'a b'": atom("a b"), "'\\x0a'": atom("\n"), "'\\'\\\\'": atom("'\\"), "'\\xff'": atom("\xff"), "'  '": atom("  "), "literal": atom("literal"), "l0": atom("l0"),
		strings.Repeat("a", 255): atom(strings.Repeat("a", 255)),
		"#r0":                    ref(0), "#r1152921504606846975": ref(1<<60 - 1), "#p0": pid(0), "#p1152921504606846975": pid(1<<60 - 1),
		"{}": tup(), "{1}": tup(num(1)), "{{},{a,{'A B'}}}": tup(tup(), tup(atom("a"), tup(atom("A B")))),
		"[]": {Kind: api.Nil}, "[1]": list(num(1)), "[1,[2],[]]": list(num(1), list(num(2)), api.Term{Kind: api.Nil}), "[1|2]": open(num(2), num(1)), "[[1|a]|{}]": open(tup(), open(atom("a"), num(1))),
		"<<>>": bin(), "<<0,255,10,32>>": bin(0, 255, 10, 32), "{<<1>>,#r1,#p2}": tup(bin(1), ref(1), pid(2)),
	}
}

func TestLiterals(t *testing.T) {
	all := least()
	var lines []string
	for word, x := range forms() {
		m := least()
		m.Lits = []api.Term{x}
		goes(t, word, text("module m", "literal "+word, "function f 0 0", "  ret"), m)
		m.Lits = []api.Term{x, num(1), x}
		goes(t, word, text("module m", "literal "+word, "literal 1", "literal "+word, "function f 0 0", "  ret"), m)
		all.Lits, lines = append(all.Lits, x), append(lines, "literal "+word)
	}
	goes(t, "all of them", text(slices.Concat([]string{"module m"}, lines, []string{"function f 0 0", "  ret"})...), all)
	deep, wide := nest(tup(), 199), bin(make([]byte, 65535)...)
	for what, x := range map[string]api.Term{"the deepest one": deep, "the greatest one": wide} {
		word, err := tree.Write(x)
		if err != nil {
			t.Fatal(err)
		}
		m := least()
		m.Lits = []api.Term{x}
		goes(t, what, text("module m", "literal "+word, "function f 0 0", "  ret"), m)
	}
}

// TestLiteralsThatAreNone: texts of no term, and of terms that may not be: these lines are wrong.
func TestLiteralsThatAreNone(t *testing.T) {
	for _, word := range []string{"", " ", "A", "a b", "-", "-0", "01", "+1", "9223372036854775808", "-9223372036854775809", "#r", "#r-1", "#r1152921504606846976", "#p1152921504606846976", "#q1", "{", "}", "{1", "{1,}", "{1, 2}", "{1 }", "{,}", "[1|[2]]", "[1|[]]", "[|1]", "[1|2,3]", "[1", "<<256>>", "<<1", "<<1 >>", "<<a>>", "<<,>>",
		"''", "'a'", "'a", "'A B", "'A'B", "1 1", "1 ", " 1", "1,2", "1.5", "\x00", "a\x00",
		"{" + strings.Repeat("1,", 65535) + "1}", "<<" + strings.Repeat("1,", 65535) + "1>>", strings.Repeat("{", 201) + strings.Repeat("}", 201), strings.Repeat("{", 100000)} {
		wrongLine(t, fmt.Sprintf("%.40q", word), text("module m", "literal 1", "literal "+word, "function f 0 0", "  ret"), 3)
	}
	for what, x := range map[string]api.Term{"the zero Term": {}, "of an empty name": atom(""), "of too great a number": ref(1 << 60), "with a field too many": {Kind: api.Nil, N: 1}} {
		m := least()
		m.Lits = []api.Term{num(1), x}
		wrongModule(t, what, m, api.ErrArg, "literal", 1, "term", 0)
	}
	m := least()
	m.Lits = []api.Term{nest(tup(), 200)}
	wrongModule(t, "too deep", m, api.ErrFull, "literal", 0, "term", 200)
}

// TestArgsAndSlots: at the ends, and beyond.
func TestArgsAndSlots(t *testing.T) {
	for args := range 11 {
		for slots := range 35 {
			s := text("module m", fmt.Sprintf("function f %d %d", args, slots), "  ret")
			m := module(api.Func{Name: "f", Args: args, Slots: slots, Code: []api.Ins{ret}})
			if args <= 8 && slots <= 32 {
				goes(t, s, s, m)
			} else {
				wrongLine(t, s, s, 2)
				wrongModule(t, s, m, api.ErrTable, "function", 0)
			}
		}
	}
	for _, word := range []string{"", "-1", "-0", "+1", "00", "01", "007", "1.", "0x1", "x1", "y1", "@1", "l1", "a", "'1'", "{1}", "1 ", "99", "4294967296", "9223372036854775808", "18446744073709551616", "18446744073709551617", strings.Repeat("0", 40), strings.Repeat("1", 40), strings.Repeat("0", 40) + "1", strings.Repeat("8", 100000), "٠"} {
		wrongLine(t, fmt.Sprintf("ARGS %.40q", word), text("module m", "function f "+word+" 0", "  ret"), 2)
		wrongLine(t, fmt.Sprintf("SLOTS %.40q", word), text("module m", "function f 0 "+word, "  ret"), 2)
	}
	for _, n := range []int{-1, 33, math.MinInt, math.MaxInt} {
		wrongModule(t, fmt.Sprint("Args ", n), module(api.Func{Name: "f", Args: n, Code: []api.Ins{ret}}), api.ErrTable, "function", 0)
		wrongModule(t, fmt.Sprint("Slots ", n), module(api.Func{Name: "f", Slots: n, Code: []api.Ins{ret}}), api.ErrTable, "function", 0)
	}
}

// manyFuncs are a text of n functions, and its module.
func manyFuncs(n int) (string, api.Module) {
	lines, m := []string{"module m"}, module()
	for i := range n {
		lines, m.Funcs = append(lines, fmt.Sprintf("function f%d 0 0", i), "  ret"), append(m.Funcs, fn(fmt.Sprint("f", i), ret))
	}
	return text(lines...), m
}

func TestHowManyFunctions(t *testing.T) {
	for _, n := range []int{1, 2, 255, 256} {
		s, m := manyFuncs(n)
		goes(t, fmt.Sprint(n, " functions"), s, m)
	}
	for _, n := range []int{257, 258, 600} {
		s, m := manyFuncs(n)
		wrongLine(t, fmt.Sprint(n, " functions"), s, 2+2*256)
		wrongModule(t, fmt.Sprint(n, " functions"), m, api.ErrTable)
	}
	most, _ := manyFuncs(256)
	wrongLine(t, "one more of a name that was there", most+"function f0 0 0\n  ret\n", 2+2*256)
	wrongLine(t, "one more with nothing in it", most+"function g 0 0\n", 2+2*256)
	wrongLine(t, "one more that is named", strings.Replace(most, "  ret", "  last g", 1)+"function g 0 0\n  ret\n", 2+2*256)
	wrongLine(t, "one of none, among the most", strings.Replace(most, "  ret", "  last g", 1), 3)
	wrongLine(t, "wrong otherwise behind too many", most+"function g 0 0\n  ret\nhop\n", 2+2*256)
	wrongLine(t, "wrong otherwise ahead of too many", strings.Replace(most, "function f255 0 0", "function f255 0 99", 1)+"function g 0 0\n  ret\n", 2*256)
	wrongLine(t, "no function, behind the most", most+"  hop\n", 2+2*256)
	_, m := manyFuncs(256)
	m.Funcs[255].Code = []api.Ins{ret, take}
	goes(t, "an instruction behind the most", most+"  take\n", m)
}

func TestHowManyInstructions(t *testing.T) {
	const most = 16384
	body := func(n int) string { return strings.Repeat("  take\n", n-1) + "  ret\n" }
	code := append(slices.Repeat([]api.Ins{take}, most-1), ret)
	goes(t, "the most", "module m\nfunction f 0 0\n"+body(most), module(fn("f", code...)))
	goes(t, "twice the most", "module m\nfunction f 0 0\n"+body(most)+"function g 0 0\n"+body(most), module(fn("f", code...), fn("g", code...)))
	wrongLine(t, "one more", "module m\nfunction f 0 0\n"+body(most+1), 3+most)
	wrongLine(t, "many more", "module m\nfunction f 0 0\n"+body(3*most), 3+most)
	wrongLine(t, "one more in the second function", "module m\nfunction f 0 0\n"+body(most)+"function g 0 0\n"+body(most+1), 4+2*most)
	wrongLine(t, "one more that is wrong otherwise, and lines behind it", "module m\nfunction f 0 0\n"+body(most)+"  hop\nhop\n", 3+most)
	wrongLine(t, "one wrong ahead of it", "module m\nfunction f 0 0\n"+body(most-1)+"  hop\n  ret\n  ret\n", 2+most)
	wrongModule(t, "one more", module(fn("f", append(slices.Clone(code), ret)...)), api.ErrTable, "function", 0)
	wrongLine(t, "one of none, and one more", "module m\nfunction f 0 0\n  call g\n"+body(most), 3+most)
}

// TestModulesThatAreNotRight: all lines are right, what is wrong is vet's.
func TestModulesThatAreNotRight(t *testing.T) {
	wrongText(t, "nothing but the module", text("module m"), api.ErrTable)
	wrongText(t, "no functions", text("module m", "literal 1", "literal 2"), api.ErrTable)
	wrongText(t, "no instructions", text("module m", "function f 0 0"), api.ErrTable, "function", 0)
	wrongText(t, "no instructions in the second one", text("module m", "function f 0 0", "  ret", "function g 0 0", "function h 0 0", "  ret"), api.ErrTable, "function", 1)
	wrongText(t, "the first one counts", text("module m", "function f 0 0", "  end", "function g 0 0"), api.ErrStack, "function", 0, "at", 0)
	wrongText(t, "its operands ahead of its tries", text("module m", "function f 0 0", "  end", "  move y0 x0"), api.ErrIndex, "function", 0, "at", 1)
	wrongModule(t, "nothing at all", api.Module{}, api.ErrTable)
	wrongModule(t, "no functions", api.Module{Name: "m"}, api.ErrTable)
	wrongModule(t, "no instructions", module(fn("f", ret), fn("g")), api.ErrTable, "function", 1)
	wrongModule(t, "tries", module(fn("f", ins(api.OpEnd), ret)), api.ErrStack, "function", 0, "at", 0)
	wrongModule(t, "behind the last one", module(fn("f", take)), api.ErrJump, "function", 0, "at", 0)
	s, err := asm.Text(module(fn("f", ins(api.OpJump, 5))))
	if s != "" || err == nil || err.Error() != "text: module: function: at: jump" {
		t.Errorf("%q, %v", s, err)
	}
}
