package asm

import (
	"strconv"
	"strings"

	"troupe/api"
	"troupe/bif"
	"troupe/tree"
)

// writer writes the lines of a module that is right.
type writer struct {
	strings.Builder
	rows  [api.OpPrio + 1]row
	names []string // the functions' names, as they are written
}

// write is the text of a module that is right.
func write(m api.Module) string {
	w := writer{rows: rows()}
	for _, f := range m.Funcs {
		w.names = append(w.names, written(api.Term{Kind: api.Atom, Name: f.Name}))
	}
	if m.Name == "" {
		w.line("module", noName)
	} else {
		w.line("module", written(api.Term{Kind: api.Atom, Name: m.Name}))
	}
	for _, t := range m.Lits {
		w.line("literal", written(t))
	}
	for i, f := range m.Funcs {
		w.line("function", w.names[i], strconv.Itoa(f.Args), strconv.Itoa(f.Slots))
		for _, ins := range f.Code {
			w.instruction(ins)
		}
	}
	return w.String()
}

// written is the text of a term that may be.
func written(t api.Term) string {
	text, _ := tree.Write(t)
	return text
}

// line writes a line of these words.
func (w *writer) line(words ...string) {
	for i, word := range words {
		if i > 0 {
			w.WriteByte(' ')
		}
		w.WriteString(word)
	}
	w.WriteByte('\n')
}

func (w *writer) instruction(ins api.Ins) {
	row := w.rows[ins.Op]
	words := [4]string{"  " + row.word}
	operands := [3]int{ins.A, ins.B, ins.C}
	for i, what := range row.operands {
		words[1+i] = w.operand(what, operands[i])
	}
	w.line(words[:1+len(row.operands)]...)
}

// operand is the text of an operand that is such a thing.
func (w *writer) operand(what, n int) string {
	switch what {
	case source:
		if n >= firstLiteral {
			return "l" + strconv.Itoa(n-firstLiteral)
		}
		fallthrough
	case place:
		if n >= firstSlot {
			return "y" + strconv.Itoa(n-firstSlot)
		}
		fallthrough
	case first:
		return "x" + strconv.Itoa(n)
	case label:
		return "@" + strconv.Itoa(n)
	case callee:
		return w.names[n]
	case builtin:
		name, _, _ := bif.Name(n)
		return name
	default: // a kind, or how many
		return strconv.Itoa(n)
	}
}
