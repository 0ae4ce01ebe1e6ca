package asm

import "troupe/api"

// What an operand is.
const (
	place   = iota // a register, or a slot
	source         // a place, or a literal
	first          // the first one of some registers
	label          // an instruction of the function
	builtin        // a function of bif
	callee         // a function of the module
	kind           // of a term
	count          // of a tuple's items, that are made of registers
	size           // of a tuple, or a place in it
)

const (
	firstSlot    = api.Regs // the operand that is slot 0
	firstLiteral = 64
	mostKind     = 9 // behind the kinds of terms: Nil or List
	mostSize     = 1 << 16
	mostLabel    = 9999999 // seven digits
	mostArgs     = 8
)

// noName is how the empty name of a module is written, which is no atom.
const noName = "''"

// row is an Op's form as a line: its word, and what its operands are, as far as it has any.
type row struct {
	word     string
	operands []int
}

// rows are the forms of all Ops. (There is no Op 0.)
func rows() [api.OpPrio + 1]row {
	return [api.OpPrio + 1]row{
		api.OpMove:    {"move", []int{place, source}},
		api.OpTuple:   {"tuple", []int{place, first, count}},
		api.OpCons:    {"cons", []int{place, source, source}},
		api.OpJump:    {"jump", []int{label}},
		api.OpIfEq:    {"ifeq", []int{source, source, label}},
		api.OpIfLt:    {"iflt", []int{source, source, label}},
		api.OpIfKind:  {"ifkind", []int{source, kind, label}},
		api.OpIfTuple: {"iftuple", []int{source, size, label}},
		api.OpElem:    {"elem", []int{place, source, size}},
		api.OpHead:    {"head", []int{place, source}},
		api.OpTail:    {"tail", []int{place, source}},
		api.OpBif:     {"bif", []int{builtin, place, first}},
		api.OpCall:    {"call", []int{callee}},
		api.OpLast:    {"last", []int{callee}},
		api.OpRet:     {"ret", nil},
		api.OpSpawn:   {"spawn", []int{place, callee, first}},
		api.OpSend:    {"send", []int{source, source}},
		api.OpPeek:    {"peek", []int{place, label}},
		api.OpTake:    {"take", nil},
		api.OpNext:    {"next", []int{label}},
		api.OpWait:    {"wait", []int{label}},
		api.OpAfter:   {"after", []int{label, source}},
		api.OpSelf:    {"self", []int{place}},
		api.OpTry:     {"try", []int{label}},
		api.OpEnd:     {"end", nil},
		api.OpRaise:   {"raise", []int{source}},
		api.OpExit:    {"exit", []int{source}},
		api.OpLink:    {"link", []int{source}},
		api.OpUnlink:  {"unlink", []int{source}},
		api.OpMonitor: {"monitor", []int{place, source}},
		api.OpDemon:   {"demon", []int{source}},
		api.OpTrap:    {"trap", []int{source}},
		api.OpKill:    {"kill", []int{source, source}},
		api.OpReg:     {"reg", []int{source}},
		api.OpWhere:   {"where", []int{place, source}},
		api.OpUnreg:   {"unreg", []int{source}},
		api.OpTimer:   {"timer", []int{place, first}},
		api.OpCancel:  {"cancel", []int{place, source}},
		api.OpOut:     {"out", []int{source}},
		api.OpYield:   {"yield", nil},
		api.OpPrio:    {"prio", []int{source}},
	}
}

// words are the Ops by their words. (The empty one is Op 0's: none.)
func words() map[string]int {
	ops := make(map[string]int, api.OpPrio+1)
	for op, row := range rows() {
		ops[row.word] = op
	}
	return ops
}
