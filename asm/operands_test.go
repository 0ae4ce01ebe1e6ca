package asm_test

import (
	"fmt"
	"maps"
	"math"
	"slices"
	"strings"
	"testing"

	"troupe/api"
	"troupe/asm"
	"troupe/bif"
)

// P11.1: each Op's operands, at the ends of what they may be and beyond.

// wide is a text whose function f has an instruction of these words behind others; its line is lineOfWide.
func wide(words ...string) string {
	return text("module m", "literal a", "literal [b]", "literal 7", "function f 2 32", "  take", "  "+strings.Join(words, " "), "  exit x0", "function 'a b' 8 0", "  ret", "function g 0 0", "  ret")
}

const lineOfWide = 7

// wideModule is the module of such a text.
func wideModule(x api.Ins) api.Module {
	return api.Module{Name: "m", Lits: []api.Term{atom("a"), list(atom("b")), num(7)}, Funcs: []api.Func{
		{Name: "f", Args: 2, Slots: 32, Code: []api.Ins{take, x, ins(api.OpExit, 0)}},
		{Name: "a b", Args: 8, Code: []api.Ins{ret}},
		{Name: "g", Code: []api.Ins{ret}},
	}}
}

// numbered are words of a letter and each of these numbers, and which operand each is.
func numbered(letter string, first int, ns ...int) map[string]int {
	all := make(map[string]int)
	for _, n := range ns {
		all[fmt.Sprint(letter, n)] = first + n
	}
	return all
}

func joined(all ...map[string]int) map[string]int {
	to := make(map[string]int)
	for _, x := range all {
		maps.Copy(to, x)
	}
	return to
}

// upTo are the numbers from least to most.
func upTo(least, most int) (ns []int) {
	for n := least; n <= most; n++ {
		ns = append(ns, n)
	}
	return ns
}

// taken are the words that an operand may be, in a text that is wide, and which operand each is.
func taken() map[string]map[string]int {
	regs, slots := numbered("x", 0, upTo(0, 15)...), numbered("y", 16, upTo(0, 31)...)
	builtins := make(map[string]int)
	for n := range 40 {
		name, _, _ := bif.Name(n)
		builtins[name] = n
	}
	return map[string]map[string]int{
		"x":        regs,
		"place":    joined(regs, slots),
		"source":   joined(regs, slots, numbered("l", 64, 0, 1, 2)),
		"label":    numbered("@", 0, 0, 1, 2, 3, 9, 10, 16, 99, 16383, 16384, 999999, 1000000, 9999999),
		"n":        numbered("", 0, upTo(0, 16)...),
		"size":     numbered("", 0, append(upTo(0, 20), 99, 100, 255, 256, 65535, 65536)...),
		"kind":     numbered("", 0, upTo(1, 9)...),
		"function": {"f": 0, "'a b'": 1, "g": 2},
		"builtin":  builtins,
	}
}

// leftOut are words that no operand may be in that text, whatever it is.
func leftOut() []string {
	some := []string{"", "x", "y", "l", "@", "'", "''", "'f'", "'g'", "'add'", "'a b", "'a b''", "'a b'x", "{f}", "[f]", "#r1", "#p1", "<<1>>", "[]", "{}",
		"F", "G", "Add", "f,", "x0,", ",", "-", "+", ".", "r0", "s0", "z0", "y-1", "f\x00", "\xff", "é", "'\\x66'", "'a\\x20b'", "'a\\ b'", "x0x", "xx0", "@@0", "@x0", "x@0"}
	for _, letter := range []string{"x", "y", "l", "@", ""} {
		for _, digits := range []string{"00", "01", "007", "-0", "-1", "+1", "+0", " 0", "0x0", "0x1", "1_0", "1e1", "1.0", "0.", ".0", "1,", "0\t", "\t0", "0\r", "\r",
			"٣", "-9223372036854775808", "9223372036854775807", "9223372036854775808", "18446744073709551615", "18446744073709551616", "18446744073709551617",
			"4294967296", "10000000", "00000000", "00000001", "12345678", "0000000", strings.Repeat("9", 300), strings.Repeat("0", 300), strings.Repeat("1", 100000), "0" + strings.Repeat("0", 100000), strings.Repeat("0", 300) + "1"} {
			some = append(some, letter+digits)
		}
	}
	some = append(some, "x16", "x17", "x99", "y32", "y33", "y47", "y48", "l3", "l4", "l64", "l65536", "65537", "65538", "99999", "100000", "9999999", "X0", "Y0", "L0", "x 0", "y 0", "@ 0", "l 0")
	for _, names := range taken() {
		for word := range names {
			some = append(some, word+" ", word+"\r", word+"\x00")
		}
	}
	return some
}

// rightWord is a word that an operand may be.
func rightWord(what string) (string, int) {
	switch what {
	case "place":
		return "y1", 17
	case "source":
		return "l1", 65
	case "x":
		return "x2", 2
	case "label":
		return "@1", 1
	case "n":
		return "3", 3
	case "size":
		return "4", 4
	case "kind":
		return "5", 5
	case "function":
		return "g", 2
	}
	return "reverse", bif.Number("reverse")
}

// TestOperands: each operand of each Op with each word that any operand may be, and with many that none may be.
func TestOperands(t *testing.T) {
	may := taken()
	all := make(map[string]bool)
	for _, words := range may {
		for word := range words {
			all[word] = true
		}
	}
	for op, row := range rows {
		for i := range max(len(row)-1, 0) {
			words, operands := []string{row[0]}, make([]int, 3)
			for j, what := range row[1:] {
				word, n := rightWord(what)
				words, operands[j] = append(words, word), n
			}
			for word := range all {
				words[1+i] = word
				n, ok := may[row[1+i]][word]
				if !ok {
					wrongLine(t, strings.Join(words, " "), wide(words...), lineOfWide)
					continue
				}
				operands[i] = n
				says(t, strings.Join(words, " "), wide(words...), wideModule(ins(op, operands...)))
			}
			for _, word := range leftOut() {
				words[1+i] = word
				wrongLine(t, fmt.Sprintf("%.99q", words), wide(words...), lineOfWide)
			}
		}
	}
}

// TestHowManyOperands: one too few, none at all, one too many of each form, of each Op.
func TestHowManyOperands(t *testing.T) {
	for op, row := range rows {
		if op == 0 {
			continue
		}
		words, operands := []string{row[0]}, make([]int, 3)
		for j, what := range row[1:] {
			word, n := rightWord(what)
			words, operands[j] = append(words, word), n
		}
		says(t, row[0], wide(words...), wideModule(ins(op, operands...)))
		for n := range len(words) - 1 {
			wrongLine(t, fmt.Sprint("too few: ", words[:1+n]), wide(words[:1+n]...), lineOfWide)
			wrongLine(t, fmt.Sprint("too few, and a blank: ", words[:1+n]), wide(append(slices.Clone(words[:1+n]), "")...), lineOfWide)
		}
		for _, more := range []string{"", "0", "x0", "y0", "l0", "@0", "f", "add", "''", " ", "x0 x0", "\t", "\x00"} {
			wrongLine(t, fmt.Sprint("too many: ", words, more), wide(append(slices.Clone(words), more)...), lineOfWide)
		}
	}
}

// TestLiteralsAhead: a literal that some literal line has, from l0 to the last one, whatever its number.
func TestLiteralsAhead(t *testing.T) {
	m := least()
	m.Funcs[0].Code = []api.Ins{ins(api.OpOut, 0), ret}
	ahead := []string{"module m"}
	wrongLine(t, "without any", text("module m", "function f 0 0", "  out l0", "  ret"), 3)
	wrongLine(t, "less than none", text("module m", "function f 0 0", "  out l-1", "  ret"), 3)
	for n := range 12 {
		ahead = append(ahead, "literal "+fmt.Sprint(n))
		m.Lits = append(m.Lits, num(int64(n)))
		for i := range 14 {
			s := text(append(slices.Clone(ahead), "function f 0 0", fmt.Sprint("  out l", i), "  ret")...)
			m.Funcs[0].Code[0].A = 64 + i
			if i <= n {
				goes(t, fmt.Sprint("l", i), s, m)
			} else {
				wrongLine(t, fmt.Sprint("l", i), s, n+4)
			}
		}
	}
}

// TestManyLiterals: as many as there may be, and more: that is vet's, and each of them may be named.
func TestManyLiterals(t *testing.T) {
	const most = 65536
	m := api.Module{Name: "m", Lits: slices.Repeat([]api.Term{num(1)}, most), Funcs: []api.Func{fn("f", ins(api.OpMove, 0, 64+most-1), ret)}}
	ahead := "module m\n" + strings.Repeat("literal 1\n", most)
	goes(t, "the last one", ahead+"function f 0 0\n  move x0 l65535\n  ret\n", m)
	wrongLine(t, "one more", ahead+"function f 0 0\n  move x0 l65536\n  ret\n", most+3)
	wrongText(t, "too many", ahead+"literal 2\nfunction f 0 0\n  move x0 l65536\n  ret\n", api.ErrTable)
	wrongLine(t, "too many, and one more", ahead+"literal 2\nfunction f 0 0\n  move x0 l65537\n  ret\n", most+4)
	wrongText(t, "too many by far", ahead+ahead[len("module m\n"):]+"function f 0 0\n  move x0 l131071\n  ret\n", api.ErrTable)
	m.Lits = append(m.Lits, num(2))
	wrongModule(t, "too many", m, api.ErrTable)
}

// TestNumbersThatAreNone: operands of a module that no words say: vet's chain, and no text.
func TestNumbersThatAreNone(t *testing.T) {
	for _, n := range []int{-1, 48, 63, 67, 1 << 20, math.MaxInt, math.MinInt} {
		wrongModule(t, fmt.Sprint(n), wideModule(ins(api.OpOut, n)), api.ErrIndex, "function", 0, "at", 1)
		wrongModule(t, fmt.Sprint("Op ", n), wideModule(ins(n)), api.ErrArg, "function", 0, "at", 1)
	}
	wrongModule(t, "an operand that is not named", wideModule(api.Ins{Op: api.OpRet, C: 1}), api.ErrArg, "function", 0, "at", 1)
}

// TestWhatIsVets: slots, labels, registers that are used, tries: lines that are right, of a module that is not.
func TestWhatIsVets(t *testing.T) {
	for line, kind := range map[string]api.Errno{
		"move y0 x0":     api.ErrIndex, // the function has no slots
		"move x0 y31":    api.ErrIndex,
		"tuple x0 x0 16": api.OK,
		"tuple x0 x1 16": api.ErrIndex,
		"tuple x0 x15 2": api.ErrIndex,
		"bif add x0 x15": api.ErrIndex,
		"bif add x0 x14": api.OK,
		"spawn x0 h x13": api.ErrIndex,
		"spawn x0 h x12": api.OK,
		"timer x0 x14":   api.ErrIndex,
		"timer x0 x13":   api.OK,
		"jump @9999999":  api.ErrJump,
		"jump @2":        api.ErrJump,
		"jump @1":        api.OK,
		"peek x0 @3":     api.ErrJump,
		"end":            api.ErrStack,
		"try @1":         api.ErrStack,
	} {
		s := text("module m", "function f 0 0", "  "+line, "  ret", "function h 4 0", "  ret")
		if kind != api.OK {
			wrongText(t, line, s, kind, "function", 0, "at", 0)
			continue
		}
		m, err := asm.Parse(s)
		if err != nil {
			t.Errorf("%s: %v", line, err)
		}
		goes(t, line, s, m)
	}
	wrongText(t, "going on behind the last one", text("module m", "function f 0 0", "  take"), api.ErrJump, "function", 0, "at", 0)
	wrongText(t, "the second function", text("module m", "function f 0 0", "  ret", "function g 0 1", "  take", "  move y1 x0", "  ret"), api.ErrIndex, "function", 1, "at", 1)
}
