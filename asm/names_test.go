package asm_test

import (
	"fmt"
	"slices"
	"strings"
	"testing"

	"troupe/api"
	"troupe/asm"
)

// P11.1: names, of modules and of functions, also where these are called or spawned; ahead of where they stand, and of none.

// asWritten are names, and how each is written.
func asWritten() map[string]string {
	names := map[string]string{
		"m": "m", "main": "main", "a1_b": "a1_b", "module": "module", "function": "function", "ret": "ret", "x0": "x0", "l0": "l0", "add": "add",
		" ": "' '", "a b": "'a b'", " a": "' a'", "a ": "'a '", "  ": "'  '", "   ret": "'   ret'", "'": "'\\''", "''": "'\\'\\''", "\\": "'\\\\'", "\\\\": "'\\\\\\\\'", "' '": "'\\' \\''", "\\'": "'\\\\\\''", "' 0 0": "'\\' 0 0'",
		"\\ '": "'\\\\ \\''", "A": "'A'", "0": "'0'", "_": "'_'", "a-b": "'a-b'", "@0": "'@0'", "a,b": "'a,b'", "{a}": "'{a}'", "f 0 0": "'f 0 0'", "-": "'-'", "#r1": "'#r1'",
		"\n": "'\\x0a'", "a\nb": "'a\\x0ab'", "\x00": "'\\x00'", "\t": "'\\x09'", "\r": "'\\x0d'", "\x1f": "'\\x1f'", "\x7f": "'\\x7f'", "\x80": "'\\x80'", "\xff": "'\\xff'", "é": "'\\xc3\\xa9'", "~": "'~'", "\"": "'\"'",
		strings.Repeat("a", 255): strings.Repeat("a", 255), strings.Repeat("A", 255): "'" + strings.Repeat("A", 255) + "'", strings.Repeat(" ", 255): "'" + strings.Repeat(" ", 255) + "'",
		strings.Repeat("'", 255): "'" + strings.Repeat("\\'", 255) + "'", strings.Repeat("\xfe", 255): "'" + strings.Repeat("\\xfe", 255) + "'",
	}
	for b := range 256 {
		if b >= 'a' && b <= 'z' {
			continue
		}
		name, word := "q"+string([]byte{byte(b)}), fmt.Sprintf("'q%c'", b)
		switch {
		case b == '\'' || b == '\\':
			word = fmt.Sprintf("'q\\%c'", b)
		case b < 32 || b > 126:
			word = fmt.Sprintf("'q\\x%02x'", b)
		case b >= '0' && b <= '9' || b == '_':
			word = name
		}
		names[name] = word
	}
	return names
}

// TestNames: each in each place.
func TestNames(t *testing.T) {
	for name, word := range asWritten() {
		m := api.Module{Name: name, Funcs: []api.Func{
			{Name: name, Code: []api.Ins{ins(api.OpCall, 0), ins(api.OpSpawn, 15, 0, 15), ins(api.OpSpawn, 1, 1, 2), ins(api.OpCall, 1), ins(api.OpLast, 0)}},
			{Name: name[:len(name)-1] + "%%", Code: []api.Ins{ins(api.OpLast, 0)}}}}
		if len(m.Funcs[1].Name) > 255 {
			m.Funcs[1].Name = "%%"
		}
		other := quoted(m.Funcs[1].Name)
		goes(t, word, text("module "+word, "function "+word+" 0 0", "  call "+word, "  spawn x15 "+word+" x15", "  spawn x1 "+other+" x2", "  call "+other, "  last "+word, "function "+other+" 0 0", "  last "+word), m)
	}
}

// quoted is how a name is written that wants quotes.
func quoted(name string) string {
	s := "'"
	for i := range len(name) {
		switch b := name[i]; {
		case b == '\'' || b == '\\':
			s += "\\" + string(rune(b))
		case b < 32 || b > 126:
			s += fmt.Sprintf("\\x%02x", b)
		default:
			s += string(rune(b))
		}
	}
	return s + "'"
}

// TestNamesThatAreNone: in each place: terms that are no atoms, atoms that are written otherwise, wrong lengths.
func TestNamesThatAreNone(t *testing.T) {
	none := []string{"A", "Main", "0", "-1", "1a", "_a", "a-b", "a.b", "a/0", "f()", "a,", "{a}", "{}", "[]", "[a]", "<<1>>", "<<>>", "#r1", "#p1", "\"a\"", "`a`", "é", "\xff", "'a'", "'main'", "'a1_'",
		"'", "'A", "A'", "''A''", "'A''B'", "'A'b", "a'B'", "'A'1", "'\\A'", "'\\n'", "'\\x41'", "'\\x4'", "'\\x0A'", "'\\X0a'", "'\\x0a", "'\\x7e'", "'\\x20'", "'\t'", "'\x00'", "'\x7f'", "'\x80'", "'é'", "'A\\", "'A\\'", "'\\", "'a b", "a b'", "'a b''", "'a b'c", "'a b' c",
		strings.Repeat("a", 256), strings.Repeat("a", 100000), "'" + strings.Repeat("A", 256) + "'", "'" + strings.Repeat("\\x00", 256) + "'", "'" + strings.Repeat("\\'", 256) + "'", "", " ", "a ", " a", "'A' ", " 'A'", "a b", "@0"}
	for _, word := range none {
		what := fmt.Sprintf("%.50q", word)
		wrongLine(t, what, text("module "+word, "function f 0 0", "  ret"), 1)
		for _, word := range []string{word, "''"} {
			wrongLine(t, what, text("module m", "function "+word+" 0 0", "  ret"), 2)
			wrongLine(t, what, text("module m", "function f 0 0", "  call "+word, "  ret", "function g 0 0", "  hop"), 3)
			wrongLine(t, what, text("module m", "function f 0 0", "  last "+word, "  hop"), 3)
			wrongLine(t, what, text("module m", "function f 0 0", "  spawn x0 "+word+" x0", "  ret", "  hop"), 3)
			wrongLine(t, what, text("module m", "function f 0 0", "  spawn x0 "+word, "  ret", "  hop"), 3)
		}
	}
}

// TestTheEmptyName: of a module alone.
func TestTheEmptyName(t *testing.T) {
	m := least()
	m.Name = ""
	goes(t, "empty", text("module ''", "function f 0 0", "  ret"), m)
	wrongText(t, "and not right", text("module ''"), api.ErrTable)
	wrongModule(t, "of a function", module(fn("", ret)), api.ErrTable, "function", 0)
	wrongModule(t, "one byte too long", api.Module{Name: strings.Repeat("a", 256), Funcs: least().Funcs}, api.ErrTable)
	wrongModule(t, "one byte too long, of a function", module(fn("f", ret), fn(strings.Repeat("a", 256), ret)), api.ErrTable, "function", 1)
	wrongLine(t, "in a literal", text("module ''", "literal ''", "function f 0 0", "  ret"), 2)
}

// TestNamedAhead: functions may be named ahead of where they stand, and name themselves.
func TestNamedAhead(t *testing.T) {
	goes(t, "themselves, one another", text("module m", "function f 0 0", "  call f", "  call g", "  last h", "function g 2 0", "  spawn x0 h x1", "  last g", "function h 3 0", "  call g", "  last f"),
		module(fn("f", ins(api.OpCall, 0), ins(api.OpCall, 1), ins(api.OpLast, 2)),
			api.Func{Name: "g", Args: 2, Code: []api.Ins{ins(api.OpSpawn, 0, 2, 1), ins(api.OpLast, 1)}},
			api.Func{Name: "h", Args: 3, Code: []api.Ins{ins(api.OpCall, 1), ins(api.OpLast, 0)}}))
	goes(t, "a function of bif's name", text("module m", "function add 0 0", "  bif add x0 x0", "  last add"),
		module(fn("add", ins(api.OpBif, 0, 0, 0), ins(api.OpLast, 0))))
	wrongText(t, "the one that is named wants too many registers", text("module m", "function f 0 0", "  spawn x0 g x15", "  ret", "function g 2 0", "  ret"), api.ErrIndex, "function", 0, "at", 0)
	const n = 256
	lines, m := []string{"module m"}, module()
	for i := range n {
		lines = append(lines, fmt.Sprintf("function f%d 0 0", i), fmt.Sprintf("  call f%d", n-1-i), fmt.Sprintf("  last f%d", (i+1)%n))
		m.Funcs = append(m.Funcs, fn(fmt.Sprint("f", i), ins(api.OpCall, n-1-i), ins(api.OpLast, (i+1)%n)))
	}
	goes(t, "all of many", text(lines...), m)
}

// TestNamesOfNoFunction: told at the line that names it first, when all lines are read.
func TestNamesOfNoFunction(t *testing.T) {
	lines := []string{"module m", "literal g", "function f 0 0", "  take", "  call f", "  take", "  last f", "function h 0 0", "  spawn x0 f x0", "  take", "  ret"}
	naming := []string{"  call g", "  last g", "  spawn x0 g x0", "  call 'F'", "  last add", "  call m", "  last ff", "  call 'f '", "  call x0"}
	wrong := []string{"hop", "", "literal 1", "module m", "function f 0 0", "function h 0 33", "  take ", "  call ''", "  call", "  spawn x0 g x16", "  spawn x0 g", "  move x0 l1"}
	places := []int{3, 4, 5, 6, 8, 9, 10}
	for i, a := range places {
		for j, name := range naming {
			x := slices.Clone(lines)
			x[a] = name
			wrongLine(t, name, text(x...), a+1)
			for _, b := range places[i+1:] {
				x := slices.Clone(x)
				x[b] = naming[(j+b)%len(naming)]
				wrongLine(t, "the first of several", text(x...), a+1)
			}
			for b, line := range []string{"module m ", "literal 01", "function f 0 33"} {
				y := slices.Clone(x)
				y[b] = line
				wrongLine(t, "one that is wrong ahead", text(y...), b+1)
			}
			for b := 3; b < len(lines); b++ {
				for _, line := range wrong {
					y := slices.Clone(x)
					y[b] = line
					wrongLine(t, fmt.Sprintf("%q at %d, %q at %d", name, a+1, line, b+1), text(y...), b+1)
				}
			}
			wrongLine(t, "and the last one has no end", strings.TrimSuffix(text(x...), "\n"), len(x))
		}
	}
	wrongLine(t, "of a module that is not right", text("module m", "function f 0 0", "  end", "  call g"), 4)
	wrongLine(t, "in a function that stands behind one without instructions", text("module m", "function f 0 0", "function h 0 0", "  last g"), 4)
	wrongLine(t, "the only one", text("module m", "function f 0 0", "  last g"), 3)
	wrongLine(t, "a name that is a literal, and the module's", text("module g", "literal g", "function f 0 0", "  last g"), 4)
	wrongLine(t, "a line that is no function's", text("module m", "literal 'function g 0 0'", "function f 0 0", "  last g", "function h 0 0", "  ret"), 4)
}

// TestNamesThatWereThere: a function line of a name that was there, wherever that was.
func TestNamesThatWereThere(t *testing.T) {
	wrongLine(t, "twice", text("module m", "function f 0 0", "  ret", "function f 0 0", "  ret"), 4)
	wrongLine(t, "at once", text("module m", "function f 0 0", "function f 0 0"), 3)
	wrongLine(t, "otherwise", text("module m", "function f 0 0", "  ret", "function f 1 2", "  ret"), 4)
	wrongLine(t, "thrice", text("module m", "function f 0 0", "  ret", "function f 0 0", "  ret", "function f 0 0", "  ret"), 4)
	wrongLine(t, "with one between", text("module m", "function f 0 0", "  ret", "function g 0 0", "  ret", "function f 0 0", "  ret", "function g 0 0"), 6)
	wrongLine(t, "in quotes", text("module m", "function 'a b' 0 0", "  ret", "function 'a b' 0 0", "  ret"), 4)
	wrongLine(t, "and named ahead", text("module m", "function f 0 0", "  last g", "function g 0 0", "  ret", "function g 0 0", "  ret"), 6)
	wrongLine(t, "and another one is of none", text("module m", "function f 0 0", "  last h", "function g 0 0", "  ret", "function g 0 0", "  ret"), 6)
	goes(t, "the module's own", text("module f", "function f 0 0", "  ret"), api.Module{Name: "f", Funcs: []api.Func{fn("f", ret)}})
	wrongModule(t, "twice", module(fn("f", ret), fn("f", ret)), api.ErrTable, "function", 1)
	m, err := asm.Parse(text("module m", "function f 0 0", "  ret", "function 'f ' 0 0", "  ret", "function ff 0 0", "  ret"))
	if err != nil || len(m.Funcs) != 3 {
		t.Errorf("names that are alike: %d, %v", len(m.Funcs), err)
	}
}
