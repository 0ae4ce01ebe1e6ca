package asm

import (
	"strconv"
	"strings"

	"troupe/api"
	"troupe/bif"
	"troupe/tree"
	"troupe/vet"
)

// reader goes through a text line by line, up to the first one that is wrong. Its methods answer false there.
type reader struct {
	m       api.Module // as far as it is read
	rows    [api.OpPrio + 1]row
	ops     map[string]int // by their words
	numbers map[string]int // of the functions, by their names: those behind the line that is read too
	at      int            // the line that is read, from 1 on
	unknown int            // the first line that names a function which stands nowhere; 0: none does
}

// read is the module of a text.
func read(text string) (api.Module, error) {
	r := reader{rows: rows(), ops: words(), numbers: heads(text)}
	for line := range strings.Lines(text) {
		r.at++
		body, ended := strings.CutSuffix(line, "\n")
		if !ended || !r.line(body) {
			return api.Module{}, wrong{r.at}
		}
	}
	switch {
	case r.at == 0:
		return api.Module{}, wrong{1}
	case r.unknown > 0:
		return api.Module{}, wrong{r.unknown}
	}
	return r.m, vet.Module(r.m)
}

// heads are the numbers of the functions whose lines stand anywhere in a text. If such a line is wrong, the numbers are too; but then that line is told, and nothing that hangs on them.
func heads(text string) map[string]int {
	numbers := make(map[string]int)
	n := 0
	for line := range strings.Lines(text) {
		rest, ok := strings.CutPrefix(line, "function ")
		if !ok {
			continue
		}
		if n == api.MaxFuncs {
			break
		}
		word, _, _ := cut(rest)
		name, _ := named(word)
		if _, there := numbers[name]; !there {
			numbers[name] = n
		}
		n++
	}
	return numbers
}

func (r *reader) line(text string) bool {
	if rest, ok := strings.CutPrefix(text, "  "); ok {
		return r.instruction(rest)
	}
	word, rest, _ := strings.Cut(text, " ")
	switch {
	case r.at == 1:
		return word == "module" && r.module(rest)
	case word == "literal":
		return len(r.m.Funcs) == 0 && r.literal(rest)
	case word == "function":
		return r.function(rest)
	}
	return false
}

func (r *reader) module(text string) bool {
	if text == noName {
		return true
	}
	name, ok := named(text)
	r.m.Name = name
	return ok
}

func (r *reader) literal(text string) bool {
	t, err := tree.Parse(text)
	r.m.Lits = append(r.m.Lits, t)
	return err == nil
}

// function reads a function's line. A name that was there has a number already, and one that stands beyond MaxFuncs has none.
func (r *reader) function(text string) bool {
	word, text, _ := cut(text)
	name, right := named(word)
	n, there := r.numbers[name]
	if !right || !there || n != len(r.m.Funcs) {
		return false
	}
	word, text, _ = cut(text)
	args, few := number(word, "", 0, mostArgs)
	slots, small := number(text, "", 0, api.Slots)
	r.m.Funcs = append(r.m.Funcs, api.Func{Name: name, Args: args, Slots: slots})
	return few && small
}

func (r *reader) instruction(text string) bool {
	word, text, more := cut(text)
	ins := api.Ins{Op: r.ops[word]}
	if ins.Op == 0 || len(r.m.Funcs) == 0 {
		return false
	}
	operands := [3]*int{&ins.A, &ins.B, &ins.C}
	for i, what := range r.rows[ins.Op].operands {
		var ok bool
		word, text, more = cut(text)
		if *operands[i], ok = r.operand(what, word); !ok {
			return false
		}
	}
	f := &r.m.Funcs[len(r.m.Funcs)-1]
	f.Code = append(f.Code, ins)
	return !more && len(f.Code) <= api.MaxCode
}

// operand reads an operand that is to be such a thing.
func (r *reader) operand(what int, word string) (int, bool) {
	switch what {
	case source:
		if n, ok := number(word, "l", 0, len(r.m.Lits)-1); ok {
			return firstLiteral + n, true
		}
		fallthrough
	case place:
		if n, ok := number(word, "y", 0, api.Slots-1); ok {
			return firstSlot + n, true
		}
		fallthrough
	case first:
		return number(word, "x", 0, api.Regs-1)
	case label:
		return number(word, "@", 0, mostLabel)
	case callee:
		return r.callee(word)
	case kind:
		return number(word, "", api.Int, mostKind)
	case count:
		return number(word, "", 0, api.Regs)
	case size:
		return number(word, "", 0, mostSize)
	default: // builtin
		n := bif.Number(word)
		return n, n >= 0
	}
}

// callee reads the name of a function of the module. That there is none of that name is kept for when all lines are read.
func (r *reader) callee(word string) (int, bool) {
	name, ok := named(word)
	n, there := r.numbers[name]
	if ok && !there && r.unknown == 0 {
		r.unknown = r.at
	}
	return n, ok
}

// cut takes the first word from a line; more tells that a blank stands behind it. What no word is left of has the empty one, which is right nowhere. A name in quotes is one word, whatever blanks are in it.
func cut(line string) (word, rest string, more bool) {
	from := quoted(line)
	word, rest, more = strings.Cut(line[from:], " ")
	return line[:from+len(word)], rest, more
}

// quoted is how many bytes a name in quotes has at a line's beginning: 0, if none stands there.
func quoted(line string) int {
	if !strings.HasPrefix(line, "'") {
		return 0
	}
	for i := 1; i < len(line); i++ {
		switch line[i] {
		case '\'':
			return i + 1
		case '\\':
			i++ // whatever stands behind it ends nothing
		}
	}
	return len(line)
}

// named reads a name, as an atom is written.
func named(word string) (string, bool) {
	t, err := tree.Parse(word)
	return t.Name, err == nil && t.Kind == api.Atom
}

// number reads a number's shortest digits behind a prefix.
func number(word, prefix string, least, most int) (int, bool) {
	digits, ok := strings.CutPrefix(word, prefix)
	if !ok {
		return 0, false
	}
	n, err := strconv.Atoi(digits)
	return n, err == nil && strconv.Itoa(n) == digits && n >= least && n <= most
}
