package asm_test

import (
	"fmt"
	"math/rand"
	"regexp"
	"slices"
	"strconv"
	"strings"
	"testing"

	"troupe/api"
	"troupe/bif"
	"troupe/fault"
	"troupe/tree"
	"troupe/vet"
)

// P11.1 and P11.3 against a slow reader and writer that follow the chapter's words: on modules by chance, on their texts turned, and on all short lines.

const (
	slowAtom   = `([a-z][a-z0-9_]*|'(?:[ -&(-\[\]-~]|\\'|\\\\|\\x(?:[01][0-9a-f]|7f|[89a-f][0-9a-f]))+')`
	slowNumber = `(0|[1-9][0-9]*)`
)

// slowForms are the forms of operands: what stands ahead of a number, the least one, the most, and what is to be added. (The most of literals is told by the text.)
var slowForms = map[string][]struct {
	ahead            string
	least, most, add int
}{
	"x":      {{"x", 0, 15, 0}},
	"place":  {{"x", 0, 15, 0}, {"y", 0, 31, 16}},
	"source": {{"x", 0, 15, 0}, {"y", 0, 31, 16}, {"l", 0, -1, 64}},
	"label":  {{"@", 0, 9999999, 0}},
	"n":      {{"", 0, 16, 0}},
	"size":   {{"", 0, 65536, 0}},
	"kind":   {{"", 1, 9, 0}},
}

var (
	slowModule   = regexp.MustCompile(`^module (?:''|` + slowAtom + `)$`)
	slowLiteral  = regexp.MustCompile(`^literal (.*)$`)
	slowFunction = regexp.MustCompile(`^function ` + slowAtom + ` ` + slowNumber + ` ` + slowNumber + `$`)
	slowLines    = slowInstructions()
	slowPlain    = regexp.MustCompile(`^[a-z][a-z0-9_]*$`)
	slowDigits   = regexp.MustCompile(`^` + slowNumber + `$`)
)

// slowInstructions are the forms of instructions by Op: a group for each operand.
func slowInstructions() []*regexp.Regexp {
	all := []*regexp.Regexp{nil}
	for _, row := range rows[1:] {
		form := "^  " + row[0]
		for _, what := range row[1:] {
			form += " " + map[bool]string{true: slowAtom, false: `([xyl@]?(?:0|[1-9][0-9]*))`}[what == "function" || what == "builtin"]
		}
		all = append(all, regexp.MustCompile(form+"$"))
	}
	return all
}

// slowName is the name that such a word says; false of one that is written otherwise, or too long.
func slowName(word string) (string, bool) {
	if word[0] != '\'' {
		return word, len(word) <= 255
	}
	var name []byte
	for in := word[1 : len(word)-1]; in != ""; {
		n := 1
		switch {
		case strings.HasPrefix(in, `\x`):
			b, _ := strconv.ParseUint(in[2:4], 16, 8)
			name, n = append(name, byte(b)), 4
		case in[0] == '\\':
			name, n = append(name, in[1]), 2
		default:
			name = append(name, in[0])
		}
		in = in[n:]
	}
	return string(name), len(name) <= 255 && !slowPlain.Match(name)
}

// slowRange is a number within a range.
func slowRange(digits string, least, most int) (int, bool) {
	if !slowDigits.MatchString(digits) || len(digits) > 9 {
		return 0, false
	}
	n, _ := strconv.Atoi(digits)
	return n, n >= least && n <= most
}

// slow is a text as the model reads it: the line that is wrong, or 0 and its module.
type slow struct {
	m      api.Module
	naming []struct {
		line, f, at, operand int
		name                 string
	}
}

// slowly reads a text.
func slowly(text string) (api.Module, int) {
	var s slow
	lines := strings.Split(text, "\n")
	for i, line := range lines {
		if i == len(lines)-1 {
			if line != "" || i == 0 {
				return api.Module{}, i + 1
			}
			break
		}
		if !s.line(i+1, line) {
			return api.Module{}, i + 1
		}
	}
	for _, x := range s.naming {
		n := slices.IndexFunc(s.m.Funcs, func(f api.Func) bool { return f.Name == x.name })
		if n < 0 {
			return api.Module{}, x.line
		}
		ins := &s.m.Funcs[x.f].Code[x.at]
		*[]*int{&ins.A, &ins.B, &ins.C}[x.operand] = n
	}
	return s.m, 0
}

func (s *slow) line(n int, line string) bool {
	if n == 1 {
		groups := slowModule.FindStringSubmatch(line)
		if groups == nil || groups[1] == "" {
			return groups != nil
		}
		name, ok := slowName(groups[1])
		s.m.Name = name
		return ok
	}
	if groups := slowLiteral.FindStringSubmatch(line); groups != nil {
		t, err := tree.Parse(groups[1])
		s.m.Lits = append(s.m.Lits, t)
		return err == nil && len(s.m.Funcs) == 0
	}
	if groups := slowFunction.FindStringSubmatch(line); groups != nil {
		name, right := slowName(groups[1])
		args, few := slowRange(groups[2], 0, 8)
		slots, small := slowRange(groups[3], 0, 32)
		there := slices.ContainsFunc(s.m.Funcs, func(f api.Func) bool { return f.Name == name })
		s.m.Funcs = append(s.m.Funcs, api.Func{Name: name, Args: args, Slots: slots})
		return right && few && small && !there && len(s.m.Funcs) <= 256
	}
	for op := 1; op < len(rows); op++ {
		if groups := slowLines[op].FindStringSubmatch(line); groups != nil {
			return s.instruction(n, op, groups[1:])
		}
	}
	return false
}

func (s *slow) instruction(line, op int, groups []string) bool {
	if len(s.m.Funcs) == 0 {
		return false
	}
	f := len(s.m.Funcs) - 1
	var operands []int
	for i, word := range groups {
		n, ok := 0, false
		switch what := rows[op][1+i]; what {
		case "function":
			var name string
			name, ok = slowName(word)
			s.naming = append(s.naming, struct {
				line, f, at, operand int
				name                 string
			}{line, f, len(s.m.Funcs[f].Code), i, name})
		case "builtin":
			n = bif.Number(word)
			ok = n >= 0
		default:
			n, ok = s.number(what, word)
		}
		if !ok {
			return false
		}
		operands = append(operands, n)
	}
	s.m.Funcs[f].Code = append(s.m.Funcs[f].Code, ins(op, operands...))
	return len(s.m.Funcs[f].Code) <= 16384
}

func (s *slow) number(what, word string) (int, bool) {
	for _, form := range slowForms[what] {
		if form.ahead == "l" {
			form.most = len(s.m.Lits) - 1
		}
		if digits, ok := strings.CutPrefix(word, form.ahead); ok {
			if n, ok := slowRange(digits, form.least, form.most); ok {
				return n + form.add, true
			}
		}
	}
	return 0, false
}

// slowText is the text of a module that is right.
func slowText(m api.Module) string {
	text := "module " + slowWord(m.Name) + "\n"
	for _, x := range m.Lits {
		word, _ := tree.Write(x)
		text += "literal " + word + "\n"
	}
	for _, f := range m.Funcs {
		text += fmt.Sprintf("function %s %d %d\n", slowWord(f.Name), f.Args, f.Slots)
		for _, x := range f.Code {
			words := []string{rows[x.Op][0]}
			for i, n := range []int{x.A, x.B, x.C}[:len(rows[x.Op])-1] {
				words = append(words, slowOperand(m, rows[x.Op][1+i], n))
			}
			text += "  " + strings.Join(words, " ") + "\n"
		}
	}
	return text
}

func slowOperand(m api.Module, what string, n int) string {
	switch what {
	case "function":
		return slowWord(m.Funcs[n].Name)
	case "builtin":
		name, _, _ := bif.Name(n)
		return name
	}
	forms := slowForms[what]
	for i := len(forms) - 1; i > 0; i-- {
		if n >= forms[i].add {
			return fmt.Sprint(forms[i].ahead, n-forms[i].add)
		}
	}
	return fmt.Sprint(forms[0].ahead, n)
}

func slowWord(name string) string {
	if name == "" || !slowPlain.MatchString(name) {
		return quoted(name)
	}
	return name
}

// agrees asks that a text is read as the model reads it, and tells what came of it: "line", "text" or "".
func agrees(t *testing.T, s string) string {
	t.Helper()
	m, line := slowly(s)
	if line > 0 {
		wrongLine(t, fmt.Sprintf("%q", s), s, line)
		return "line"
	}
	says(t, fmt.Sprintf("%q", s), s, m)
	if vet.Module(m) != nil {
		return "text"
	}
	return ""
}

var someNames = []string{"f", "g", "main", "a b", "A", "'", "\\", "\n", "\xff", " ", "  ", "x0", "@1", "ret", "f 0 0", "add", "' '", "_", "1", "end\n", "ff", "f_1", "\x00'", "'\\ "}

// moduleBy is a module by chance that is right.
func moduleBy(r *rand.Rand, funcs, size int) api.Module {
	m := api.Module{Name: []string{"", "m", someNames[r.Intn(len(someNames))]}[r.Intn(3)]}
	var lits []api.Term
	for _, x := range forms() {
		lits = append(lits, x)
	}
	slices.SortFunc(lits, tree.Compare)
	for range r.Intn(6) {
		m.Lits = append(m.Lits, lits[r.Intn(len(lits))])
	}
	names := r.Perm(len(someNames))
	for i := range 1 + r.Intn(funcs) {
		m.Funcs = append(m.Funcs, api.Func{Name: someNames[names[i]], Args: r.Intn(9), Slots: r.Intn(33), Code: make([]api.Ins, 1+r.Intn(size))})
	}
	for _, f := range m.Funcs {
		for at := range f.Code {
			f.Code[at] = insBy(r, m, f)
		}
	}
	mend(m)
	return m
}

// insBy is an instruction by chance, right by its operands one by one.
func insBy(r *rand.Rand, m api.Module, f api.Func) api.Ins {
	op := 1 + r.Intn(41)
	var operands []int
	for _, what := range rows[op][1:] {
		n := 0
		switch what {
		case "function":
			n = r.Intn(len(m.Funcs))
		case "builtin":
			n = r.Intn(40)
		case "label":
			n = r.Intn(len(f.Code))
		case "x":
			n = r.Intn(16)
		case "place":
			n = r.Intn(16 + f.Slots)
		case "source":
			n = r.Intn(16 + f.Slots + len(m.Lits))
			if n >= 16+f.Slots {
				n += 64 - 16 - f.Slots
			}
		case "kind":
			n = 1 + r.Intn(9)
		case "n":
			n = r.Intn(17)
		case "size":
			n = []int{0, 1, 16, 17, 65535, 65536, r.Intn(65537)}[r.Intn(7)]
		}
		operands = append(operands, n)
	}
	return ins(op, operands...)
}

// mend turns instructions of a module till it is right: each that slips into one that goes nowhere.
func mend(m api.Module) {
	for err := vet.Module(m); err != nil; err = vet.Module(m) {
		f, _ := fault.Number(err, "function")
		at, _ := fault.Number(err, "at")
		m.Funcs[f].Code[at] = ins(api.OpRaise, 3)
	}
}

// TestModulesByChance: P11.3.
func TestModulesByChance(t *testing.T) {
	r := rand.New(rand.NewSource(11))
	for i := range 3000 {
		m := moduleBy(r, 4, 30)
		goes(t, fmt.Sprint("module ", i), slowText(m), m)
		if i < 300 {
			agrees(t, slowText(m))
		}
	}
}

// turn is a text turned by chance: a byte, a word or a line of it.
func turn(r *rand.Rand, s string) string {
	lines := strings.SplitAfter(s, "\n")
	n := r.Intn(len(lines))
	switch r.Intn(12) {
	case 0, 1, 2: // a byte, another one or one more
		const some = " \n'\\x0a19yl@fgm{}[],-_AZ\x00\xff\t\r"
		at := r.Intn(len(s) + 1)
		return s[:at] + string(some[r.Intn(len(some))]) + s[min(len(s), at+r.Intn(2)):]
	case 3: // bytes less
		at := r.Intn(len(s) + 1)
		return s[:at] + s[min(len(s), at+1+r.Intn(2)):]
	case 4: // a line less
		return strings.Join(slices.Delete(lines, n, n+1), "")
	case 5: // a line twice
		return strings.Join(slices.Insert(lines, n, lines[n]), "")
	case 6: // two lines in the other's place
		k := r.Intn(len(lines))
		lines[n], lines[k] = lines[k], lines[n]
		return strings.Join(lines, "")
	case 7: // a line of another text
		some := []string{"module m\n", "literal a\n", "literal 'x y'\n", "function zz 0 0\n", "function f 8 32\n", "  ret\n", "  call zz\n", "  call nope\n", "  move y31 l0\n", "  jump @9999999\n", "  last main\n", "\n"}
		return strings.Join(slices.Insert(lines, n, some[r.Intn(len(some))]), "")
	}
	// a word, one of the text or another
	words := strings.Split(s, " ")
	some := []string{"x0", "x15", "x16", "y0", "y31", "y32", "l0", "l1", "l5", "l6", "@0", "@1", "@9999999", "@10000000", "0", "8", "9", "16", "17", "32", "33", "65536", "65537", "00", "f", "'A'", "nope", "hash", "hush", "move", ""}
	to := some[r.Intn(len(some))]
	if r.Intn(3) == 0 {
		to = words[r.Intn(len(words))]
	}
	k := r.Intn(len(words))
	if at := strings.IndexByte(words[k], '\n'); at >= 0 && r.Intn(4) > 0 {
		to += words[k][at:]
	}
	words[k] = to
	return strings.Join(words, " ")
}

// TestTextsTurnedByChance: texts of modules, turned once or more.
func TestTextsTurnedByChance(t *testing.T) {
	r := rand.New(rand.NewSource(12))
	came := map[string]int{}
	for range 20000 {
		s := slowText(moduleBy(r, 3, 5))
		for range 1 + r.Intn(3) {
			s = turn(r, s)
		}
		came[agrees(t, s)]++
		if t.Failed() {
			return
		}
	}
	for _, what := range []string{"", "text", "line"} {
		if came[what] < 400 {
			t.Errorf("only %d of %q", came[what], what)
		}
	}
}

// TestAllShortLines: all that may stand behind the first words of a line, up to four bytes of some, and six of fewer.
func TestAllShortLines(t *testing.T) {
	parts := []string{" ", "'", "\\", "a", "A", "0", "1", "l", "x"}
	var each func(s string, n int)
	each = func(s string, n int) {
		for _, line := range []string{"module " + s, s} {
			agrees(t, text(line, "function a 0 0", "  ret"))
		}
		for _, line := range []string{"literal " + s, "function " + s, "function a" + s, "  call " + s, "  out " + s, "  spawn x0 " + s, "  bif hash " + s, " " + s} {
			agrees(t, text("module m", "literal 1", "function a0 0 0", line, "  ret"))
			agrees(t, text("module m", line, "function a0 0 0", "  ret"))
		}
		if n > 0 && !t.Failed() {
			for _, part := range parts {
				each(s+part, n-1)
			}
		}
	}
	each("", 4)
	if !t.Failed() {
		parts = []string{" ", "'", "a"}
		each("", 6)
	}
}
