package asm_test

import (
	"slices"
	"strings"
	"testing"

	"troupe/api"
	"troupe/asm"
)

// P11.2.

// TestOps: each word's Op, by the names of package api.
func TestOps(t *testing.T) {
	ops := map[string]int{
		"move": api.OpMove, "tuple": api.OpTuple, "cons": api.OpCons, "jump": api.OpJump, "ifeq": api.OpIfEq, "iflt": api.OpIfLt,
		"ifkind": api.OpIfKind, "iftuple": api.OpIfTuple, "elem": api.OpElem, "head": api.OpHead, "tail": api.OpTail, "bif": api.OpBif,
		"call": api.OpCall, "last": api.OpLast, "ret": api.OpRet, "spawn": api.OpSpawn, "send": api.OpSend, "peek": api.OpPeek,
		"take": api.OpTake, "next": api.OpNext, "wait": api.OpWait, "after": api.OpAfter, "self": api.OpSelf, "try": api.OpTry,
		"end": api.OpEnd, "raise": api.OpRaise, "exit": api.OpExit, "link": api.OpLink, "unlink": api.OpUnlink, "monitor": api.OpMonitor,
		"demon": api.OpDemon, "trap": api.OpTrap, "kill": api.OpKill, "reg": api.OpReg, "where": api.OpWhere, "unreg": api.OpUnreg,
		"timer": api.OpTimer, "cancel": api.OpCancel, "out": api.OpOut, "yield": api.OpYield, "prio": api.OpPrio,
	}
	if len(ops) != api.OpPrio || len(rows) != api.OpPrio+1 {
		t.Fatalf("%d words, %d rows", len(ops), len(rows))
	}
	for word, op := range ops {
		if got := asm.Op(word); got != op || rows[op][0] != word {
			t.Errorf("%s: %d, not %d", word, got, op)
		}
	}
}

// wordsOfNone are words of no Op, many of them made of words of some.
func wordsOfNone() []string {
	none := []string{"", " ", "  ", "\n", "\x00", "module", "literal", "function", "0", "1", "41", "42", "x0", "l0", "@0", "add", "div", "op", "OpMove",
		"nop", "hop", "if", "ifeqq", "unmonitor", "'move'", "move\x00", "\xff", "mové", "ret,", "goto", "recv", "receive", "sleep", "exits"}
	for _, row := range rows[1:] {
		word := row[0]
		none = append(none, strings.ToUpper(word), strings.ToUpper(word[:1])+word[1:], word+" ", " "+word, "  "+word, word+"\n", word+" x0",
			word[:1]+" "+word[1:], word[1:]+word[:1], "'"+word+"'", word+word, word+"s", word+"\t", "op"+word)
		for n := 1; n < len(word); n++ {
			none = append(none, word[:n])
		}
	}
	return slices.DeleteFunc(none, func(s string) bool {
		return slices.ContainsFunc(rows[1:], func(row []string) bool { return row[0] == s })
	})
}

func TestWordsOfNoOp(t *testing.T) {
	for _, word := range wordsOfNone() {
		if got := asm.Op(word); got != 0 {
			t.Errorf("%q: %d", word, got)
		}
	}
	if got := asm.Op(strings.Repeat("move", 1<<20)); got != 0 {
		t.Errorf("a long one: %d", got)
	}
}

// TestWordsOfNoOpAsLines: none of them begins an instruction. (But for those that are words with an operand, or more than one line.)
func TestWordsOfNoOpAsLines(t *testing.T) {
	for _, word := range wordsOfNone() {
		if !strings.Contains(word, "\n") && !strings.HasSuffix(word, " x0") {
			wrongLine(t, "  "+word, text("module m", "function f 0 0", "  "+word, "  ret"), 3)
		}
	}
}
