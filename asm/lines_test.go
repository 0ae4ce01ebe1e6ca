package asm_test

import (
	"fmt"
	"slices"
	"strings"
	"testing"

	"troupe/api"
	"troupe/asm"
)

// P11.1: the three kinds of lines and an instruction's, their form, where they may stand, and which one is told.

// TestExamples: the chapter's, and the sheets' modules of DOC.md.
func TestExamples(t *testing.T) {
	goes(t, "the chapter's", "module m\nfunction f 0 0\n  ret\n", least())
	goes(t, "a term", text("module m", "literal {ok,[1,2]}", "function main 0 0", "  out l0", "  ret"),
		api.Module{Name: "m", Lits: []api.Term{tup(atom("ok"), list(num(1), num(2)))}, Funcs: []api.Func{fn("main", ins(api.OpOut, 64), ret)}})
	goes(t, "spawning and sending", text("module m", "literal hello", "function main 0 0", "  spawn x0 echo x0", "  send x0 l0", "  ret",
		"function echo 0 0", "  peek x0 @4", "  take", "  out x0", "  ret", "  wait @0"),
		api.Module{Name: "m", Lits: []api.Term{atom("hello")}, Funcs: []api.Func{
			fn("main", ins(api.OpSpawn, 0, 1, 0), ins(api.OpSend, 0, 64), ret),
			fn("echo", ins(api.OpPeek, 0, 4), take, ins(api.OpOut, 0), ret, ins(api.OpWait, 0))}})
	goes(t, "div", text("module m", "literal 0", "literal 1", "function main 0 0", "  move x0 l1", "  move x1 l0", "  bif div x2 x0", "  ret"),
		api.Module{Name: "m", Lits: []api.Term{num(0), num(1)}, Funcs: []api.Func{
			fn("main", ins(api.OpMove, 0, 65), ins(api.OpMove, 1, 64), ins(api.OpBif, 3, 2, 0), ret)}})
	goes(t, "a try", text("module m", "literal boom", "function main 0 0", "  try @2", "  raise l0", "  out x0", "  ret"),
		api.Module{Name: "m", Lits: []api.Term{atom("boom")}, Funcs: []api.Func{
			fn("main", ins(api.OpTry, 2), ins(api.OpRaise, 64), ins(api.OpOut, 0), ret)}})
	goes(t, "waiting", text("module m", "literal 3", "literal late", "function main 0 0", "  after @0 l0", "  out l1", "  ret"),
		api.Module{Name: "m", Lits: []api.Term{num(3), atom("late")}, Funcs: []api.Func{
			fn("main", ins(api.OpAfter, 0, 64), ins(api.OpOut, 65), ret)}})
	goes(t, "ever more", text("module m", "function main 0 0", "  cons x0 x0 x0", "  jump @0"),
		module(fn("main", ins(api.OpCons, 0, 0, 0), ins(api.OpJump, 0))))
	wrongText(t, "not right", text("module m", "function main 0 0", "  end", "  ret"), api.ErrStack, "function", 0, "at", 0)
	_, err := asm.Parse("module m\nfunction main 0 0\n  end\n  ret\n")
	if err.Error() != "text: module: function: at: stack" {
		t.Error(err)
	}
	_, err = asm.Parse("hop\n")
	if err.Error() != "line: line" {
		t.Error(err)
	}
}

// TestTheEndOfALine: each line ends with the byte 10, the last one too.
func TestTheEndOfALine(t *testing.T) {
	wrongLine(t, "the empty text", "", 1)
	wrongLine(t, "an empty line", "\n", 1)
	wrongLine(t, "empty lines", "\n\n\n", 1)
	lines := []string{"module m", "literal 1", "literal 2", "function f 0 0", "  take", "  ret", "function g 0 0", "  ret"}
	for n := range lines {
		ahead := text(lines[:n]...)
		wrongLine(t, fmt.Sprint("no end of line ", n+1), ahead+lines[n], n+1)
		wrongLine(t, fmt.Sprint("an empty line for line ", n+1), ahead+"\n"+text(lines[n:]...), n+1)
		wrongLine(t, fmt.Sprint("an empty line behind line ", n+1), ahead+lines[n]+"\n\n", n+2)
		for _, more := range []string{" ", "\r", "\t", "\x00", "\v", "\u0085", "\u2028", " #", "  ", "\n\n"} {
			wrongLine(t, fmt.Sprintf("%q behind line %d", more, n+1), ahead+lines[n]+more+"\n"+text(lines[n+1:]...), n+1+strings.Count(more, "\n")/2)
			wrongLine(t, fmt.Sprintf("%q behind line %d, and no end", more, n+1), ahead+lines[n]+more, n+1+strings.Count(more, "\n")/2)
		}
		for _, more := range []string{" ", "\t", "  ", "   ", "\x00", "\ufeff"} {
			wrongLine(t, fmt.Sprintf("%q ahead of line %d", more, n+1), ahead+more+text(lines[n:]...), n+1)
		}
		for at := 1; at < len(lines[n]); at++ {
			wrongLine(t, fmt.Sprintf("line %d cut at %d", n+1, at), ahead+lines[n][:at], n+1)
		}
	}
	wrongLine(t, "a blank at the end", text(lines...)+" ", len(lines)+1)
	wrongLine(t, "two ends", text(lines...)+"\n", len(lines)+1)
	wrongLine(t, "the byte 13 for 10", strings.ReplaceAll(text(lines...), "\n", "\r"), 1)
}

// TestBlanks: two ahead of an instruction, one between words.
func TestBlanks(t *testing.T) {
	ahead := []string{"module m", "literal {a,'b  c'}", "function f 0 0", "  take"}
	m := module(fn("f", take, ins(api.OpCons, 1, 2, 64), ret))
	m.Lits = []api.Term{tup(atom("a"), atom("b  c"))}
	goes(t, "right", text(append(ahead, "  cons x1 x2 l0", "  ret")...), m)
	for _, line := range []string{"cons x1 x2 l0", " cons x1 x2 l0", "   cons x1 x2 l0", "    cons x1 x2 l0", "\tcons x1 x2 l0", "\t\tcons x1 x2 l0", " \tcons x1 x2 l0", "\t cons x1 x2 l0",
		"  cons  x1 x2 l0", "  cons x1  x2 l0", "  cons x1 x2  l0", "  cons x1 x2 l0 ", "  cons\tx1 x2 l0", "  cons x1\tx2 l0", "  cons x1 x2\tl0", "  cons x1 x2 l0\t",
		"  consx1 x2 l0", "  cons x1x2 l0", "  cons x1 x2l0", "  cons x1,x2,l0", "  cons x1, x2, l0", "  cons, x1 x2 l0", "  ", " ", "   ", "\u00a0\u00a0cons x1 x2 l0"} {
		wrongLine(t, fmt.Sprintf("%q", line), text(append(slices.Clone(ahead), line, "  ret")...), 5)
	}
	for _, line := range []string{"function  f 0 0", "function f  0 0", "function f 0  0", "function f 0 0 ", " function f 0 0", "  function f 0 0", "function\tf 0 0", "function f\t0 0", "function f 0\t0",
		"functionf 0 0", "functions f 0 0", "function f 00", "function f0 0", "function", "function ", "function f", "function f ", "function f 0", "function f 0 ", "function f 0 0 0", "function 0 0", "function f 0 0\t", "Function f 0 0", "FUNCTION f 0 0", "'function' f 0 0", "func f 0 0", "f 0 0"} {
		wrongLine(t, fmt.Sprintf("%q", line), text("module m", "literal a", line, "  ret"), 3)
	}
	for _, line := range []string{"literal  a", "literal", "literal ", "literal a ", " literal a", "  literal a", "literal\ta", "literala", "literals a", "literal a b", "literal a a", "Literal a", "literal {a, b}", "literal {a ,b}", "literal [ ]", "literal '' ", "literal ''", "'literal' a"} {
		wrongLine(t, fmt.Sprintf("%q", line), text("module m", line, "function f 0 0", "  ret"), 2)
	}
	for _, line := range []string{"module  m", "module", "module ", "module m ", " module m", "  module m", "module\tm", "modulem", "modules m", "module m n", "module m m", "Module m", "MODULE m", "module '' ", "module ''''", "module '", "module '''", "module ' ", "'module' m", "m", "ret", "  ret", "literal a", "function f 0 0"} {
		wrongLine(t, fmt.Sprintf("%q", line), text(line, "function f 0 0", "  ret"), 1)
	}
}

// TestWordsThatAreNone: what begins no line, and words of one kind of line in another's place.
func TestWordsThatAreNone(t *testing.T) {
	none := []string{"hop", "sup 1 1 10", "child child 0 5", "boot -", "conf 1 2 8 8 1 0 1", "run 0 10", "end", "# a remark", "  # a remark", "; a", "ret", "move x0 x1", "f:", "@0", "\x00", "\xff",
		"  function f 0 0", "  literal 1", "  module m", "  hop", "  41", "  41 x0", "  @0 ret", "  0: ret", "  f"}
	for _, line := range none {
		lines := []string{"module m", "literal 1", "function f 0 0", "  ret"}
		for n := range 5 {
			wrongLine(t, fmt.Sprintf("%q", line), text(slices.Insert(slices.Clone(lines), n, line)...), n+1)
		}
	}
}

// TestPlaces: lines in a place where none of their kind may stand.
func TestPlaces(t *testing.T) {
	kinds := []string{"module m", "literal 1", "function f 0 0", "  ret"}
	lines := []string{"module m", "literal 1", "literal 2", "function g 0 0", "  ret", "function h 0 0", "  ret"}
	for _, line := range kinds {
		for n := range len(lines) + 1 {
			s := text(slices.Insert(slices.Clone(lines), n, line)...)
			may := n > 0 && (line == "literal 1" && n < 4 || line == "function f 0 0" && n > 2 || line == "  ret" && n > 3)
			switch {
			case n == 0 && line == "module m":
				wrongLine(t, "a second module", s, 2)
			case n < 3 && n > 0 && line == "function f 0 0":
				wrongLine(t, "a literal behind a function", s, n+2)
			case !may:
				wrongLine(t, fmt.Sprintf("%q at line %d", line, n+1), s, n+1)
			case line == "function f 0 0": // it takes the instructions of the one ahead of it, or has none
				wrongText(t, "a function without instructions", s, api.ErrTable, "function", (n-3)/2)
			default:
				m, err := asm.Parse(s)
				if back, _ := asm.Text(m); back != s {
					t.Errorf("%q at line %d: %v, %q", line, n+1, err, back)
				}
			}
		}
	}
	wrongLine(t, "an instruction first", text("  ret", "module m"), 1)
	wrongLine(t, "an instruction behind the module", text("module m", "  ret", "function f 0 0", "  ret"), 2)
	wrongLine(t, "an instruction behind a literal", text("module m", "literal 1", "  ret"), 3)
	wrongLine(t, "the same module again", text("module m", "module m"), 2)
	wrongLine(t, "a module behind all", text("module m", "function f 0 0", "  ret", "module m"), 4)
	wrongLine(t, "a literal within a function", text("module m", "function f 0 0", "  take", "literal 1", "  ret"), 4)
}

// TestWhichLine: the first one that is wrong, whatever is wrong in it and in others.
func TestWhichLine(t *testing.T) {
	lines := []string{"module m", "literal 1", "literal 2", "function f 0 0", "  take", "  ret", "function g 0 0", "  take", "  ret"}
	wrong := []string{"hop", "", "module m n", "literal {", "function f 9 0", "  move x16 x0", "  take ", "\x00"}
	for a := range lines {
		for b := range lines {
			x := slices.Clone(lines)
			x[a], x[b] = wrong[(a+b)%len(wrong)], wrong[(a+3*b)%len(wrong)]
			wrongLine(t, fmt.Sprintf("%q", x), text(x...), min(a, b)+1)
			wrongLine(t, fmt.Sprintf("%q without its end", x), strings.TrimSuffix(text(x...), "\n"), min(a, b)+1)
		}
	}
	wrongLine(t, "the last one has no end, and one is of a module that is not right", "module m\nfunction f 0 0\n  end\n  ret", 4)
	wrongLine(t, "wrong twice", text("module m", "function f 9 33", "  hop"), 2)
	wrongLine(t, "far behind", text("module m", "function f 0 0")+strings.Repeat("  take\n", 10000)+"  tape\n", 10003)
	wrongLine(t, "long", "module m\n"+strings.Repeat("literal 7\n", 200000)+"literal 07\n", 200002)
}

// TestBytesTurned: each byte of a right text turned into each other one: it is another module's text, or it is wrong.
func TestBytesTurned(t *testing.T) {
	s := text("module m", "literal 'A b'", "function f 0 2", "  move y1 l0", "  ret")
	for at := range s {
		for b := range 256 {
			turned := s[:at] + string([]byte{byte(b)}) + s[at+1:]
			m, err := asm.Parse(turned)
			if back, _ := asm.Text(m); err == nil && back != turned {
				t.Errorf("%q is taken, and told as %q", turned, back)
			}
			if err == nil && (b < 32 && b != 10 || b > 126) {
				t.Errorf("%q is taken", turned)
			}
		}
	}
}
