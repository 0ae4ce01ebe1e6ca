package tree

import (
	"errors"
	"math"
	"slices"
	"strconv"
	"strings"
	"testing"

	"troupe/api"
)

// P2.4

var long = strings.Repeat("a", 255)

func texts() map[string]api.Term {
	return map[string]api.Term{
		"0": num(0), "-1": num(-1), "10": num(10), "9223372036854775807": num(math.MaxInt64), "-9223372036854775808": num(math.MinInt64),
		"a": atom("a"), "z": atom("z"), "a_": atom("a_"), "ok2_": atom("ok2_"), long: atom(long),
		"'A'": atom("A"), "'aB'": atom("aB"), "'1'": atom("1"), "'_a'": atom("_a"), "' '": atom(" "), "'a b'": atom("a b"), "'~'": atom("~"), "'{}'": atom("{}"), "'-1'": atom("-1"), "'\"'": atom("\""),
		`'\''`: atom("'"), `'\\'`: atom(`\`), `'\\x41'`: atom(`\x41`), `'a\'b\\c'`: atom(`a'b\c`),
		`'\x00'`: atom("\x00"), `'\x0a'`: atom("\n"), `'\x1f'`: atom("\x1f"), `'\x7f'`: atom("\x7f"), `'\x80'`: atom("\x80"), `'\xff'`: atom("\xff"), `'\xc3\xa9'`: atom("é"), `'a\x00b'`: atom("a\x00b"),
		"'" + long[:254] + "A'": atom(long[:254] + "A"), "'A" + long[:254] + "'": atom("A" + long[:254]),
		"'" + strings.Repeat(`\xfe`, 255) + "'": atom(strings.Repeat("\xfe", 255)), "'" + strings.Repeat(`\'`, 255) + "'": atom(strings.Repeat("'", 255)),
		"#r0": ref(0), "#r10": ref(10), "#r1152921504606846975": ref(most60), "#p0": pid(0), "#p64": pid(64), "#p1152921504606846975": pid(most60),
		"{}": tup(), "{1}": tup(num(1)), "{1,a,{},[]}": tup(num(1), atom("a"), tup(), none()), "{{{}}}": tup(tup(tup())),
		"[]": none(), "[[]]": list(none()), "[1]": list(num(1)), "[1,2]": list(num(1), num(2)), "[1|2]": open(num(2), num(1)), "[1,2|{[]}]": open(tup(none()), num(1), num(2)), "[1|<<>>]": open(bin(), num(1)), "[[1|a]|#p0]": open(pid(0), open(atom("a"), num(1))), "[{[1|2]}|{[3|4],5}]": open(tup(open(num(4), num(3)), num(5)), tup(open(num(2), num(1)))),
		"<<>>": bin(), "<<0>>": bin(0), "<<1,20,255>>": bin(1, 20, 255),
		"{ok,[1,2]}": tup(atom("ok"), list(num(1), num(2))),
	}
}

func TestTexts(t *testing.T) {
	for s, x := range texts() {
		if got, err := Write(x); got != s || err != nil {
			t.Errorf("Write: %s: %s, %v", s, got, err)
		}
		if got, err := Parse(s); !same(got, x) || err != nil {
			t.Errorf("Parse: %s: %+v, %v", s, got, err)
		}
	}
}

func TestTextsOfAtomsOfOneByteAndTwo(t *testing.T) {
	for b := range 256 {
		name := string([]byte{byte(b)})
		inside := name
		switch {
		case b < 32 || b >= 127:
			inside = `\x` + string("0123456789abcdef"[b/16]) + string("0123456789abcdef"[b%16])
		case name == "'" || name == `\`:
			inside = `\` + name
		}
		first, second := "'"+inside+"'", "'a"+inside+"'"
		if name >= "a" && name <= "z" {
			first, second = name, "a"+name
		}
		if name >= "0" && name <= "9" || name == "_" {
			second = "a" + name
		}
		for s, x := range map[string]api.Term{first: atom(name), second: atom("a" + name)} {
			if got, err := Write(x); got != s || err != nil {
				t.Errorf("%d: %s, %v", b, got, err)
			}
			if got, err := Parse(s); !same(got, x) || err != nil {
				t.Errorf("%d: %s: %+v, %v", b, s, got, err)
			}
		}
	}
}

func TestWriteOfTermsThatMayNotBe(t *testing.T) {
	for name, x := range wrong() {
		s, err := Write(x)
		wantChain(t, name, err, api.ErrArg, "write", 0, "term", 0)
		inner, err := Write(tup(num(1), x))
		wantChain(t, name, err, api.ErrArg, "write", 0, "term", 2)
		if s != "" || inner != "" {
			t.Errorf("%s: %q %q", name, s, inner)
		}
	}
	_, err := Write(nest(num(1), api.MaxDepth))
	wantChain(t, "deep", err, api.ErrFull, "write", 0, "term", api.MaxDepth)
	_, err = Write(bin(make([]byte, api.MaxTerms)...))
	wantChain(t, "many", err, api.ErrFull, "write", 0, "term", 0)
}

func TestTextsThatAreWrong(t *testing.T) {
	cases := []struct {
		s string
		n int
	}{
		{"", 0}, {" ", 0}, {"1 ", 1}, {" 1", 0}, {"\n", 0}, {"1\n", 1}, {"\x00", 0}, {"\xff", 0}, {"A", 0}, {"_", 0}, {"]", 0}, {"}", 0}, {",", 0}, {"|", 0}, {">", 0}, {"+1", 0},
		// Ints
		{"-", 1}, {"--1", 1}, {"-a", 1}, {"-0", 1}, {"-01", 1}, {"00", 1}, {"01", 1}, {"0a", 1}, {"1a", 1}, {"12-", 2}, {"1.0", 1}, {"0x1", 1},
		{"9223372036854775808", 18}, {"9223372036854775810", 18}, {"9223372036854775799999", 19}, {"10000000000000000000", 19}, {"99999999999999999999", 18}, {"92233720368547758070", 19},
		{"-9223372036854775809", 19}, {"-9223372036854775810", 19}, {"-92233720368547758080", 20}, {"-99999999999999999999", 19}, {"18446744073709551616", 19}, {"18446744073709551617", 19},
		// Refs and Pids
		{"#", 1}, {"#q1", 1}, {"##", 1}, {"#1", 1}, {"#R1", 1}, {"#r", 2}, {"#p", 2}, {"#ra", 2}, {"#p-1", 2}, {"#r00", 3}, {"#p01", 3}, {"#p1a", 3}, {"#r#r1", 2},
		{"#r1152921504606846976", 20}, {"#p1152921504606846976", 20}, {"#p11529215046068469750", 21}, {"#r9999999999999999999", 20}, {"#r1200000000000000000", 20},
		// atoms
		{"aB", 1}, {"a-", 1}, {"a'", 1}, {"a'b'", 1}, {"é", 0}, {"aé", 1}, {long + "a", 255}, {long + "_b", 255}, {long + "'", 255}, {long + "B", 255},
		{"'", 1}, {"''", 1}, {"'a'", 2}, {"'a_0'", 4}, {"'A", 2}, {"'A'a", 3}, {"'A''", 3}, {"'\n'", 1}, {"'a\x7f'", 2}, {"'\x80'", 1}, {"'é'", 1}, {"'\x00'", 1}, {"'" + long + "'", 256},
		{`'\`, 2}, {`'\a'`, 2}, {`'\"'`, 2}, {`'\n'`, 2}, {`'\X00'`, 2}, {`'\x`, 3}, {`'\x0`, 4}, {`'\x00`, 5}, {`'\xg0'`, 3}, {`'\x0g'`, 4}, {`'\xA0'`, 3}, {`'\x0A'`, 4}, {`'\x'`, 3}, {`'\x0'`, 4},
		{`'\x20'`, 3}, {`'\x41'`, 3}, {`'\x61'`, 3}, {`'\x3`, 3}, {`'\x5`, 3}, {`'\x7`, 4}, {`'\x70'`, 4}, {`'\x7e'`, 4}, {`'\x7F'`, 4}, {`'\x2`, 3}, {`'\x6f'`, 3}, {`'\x1`, 4},
		{"'A" + long + "'", 256}, {"'A" + long[:254], 256}, {"'A" + long[:254] + `\'`, 256}, {"'A" + long[:254] + `\x00'`, 256}, {"'" + strings.Repeat(`\x00`, 255) + `\x00'`, 1 + 4*255}, {"'" + strings.Repeat(`\\`, 255) + `\\'`, 1 + 2*255}, {"'" + long + "A'", 256}, {"'A" + long[:254] + "\n", 256},
		// tuples
		{"{", 1}, {"{,}", 1}, {"{1", 2}, {"{1,", 3}, {"{1,}", 3}, {"{1,,2}", 3}, {"{1]", 2}, {"{1|2}", 2}, {"{1}}", 3}, {"{}{}", 2}, {"{}1", 2}, {"{ 1}", 1}, {"{1 }", 2}, {"{a b}", 2}, {"{]", 1}, {"{1,[2}", 5}, {"{1,01}", 4}, {"{1,'a'}", 5},
		// lists
		{"[", 1}, {"[,1]", 1}, {"[|1]", 1}, {"[1", 2}, {"[1,", 3}, {"[1,]", 3}, {"[1}", 2}, {"[1,|2]", 3}, {"[1|", 3}, {"[1|]", 3}, {"[1||2]", 3}, {"[1|2", 4}, {"[1|2,3]", 4}, {"[1|2|3]", 4}, {"[1|2}", 4}, {"[1|[]]", 3}, {"[1|[2]]", 3}, {"[1|[", 3}, {"[1|{[}", 5}, {"[1|{2|3}]", 5}, {"[]]", 2}, {"[][]", 2}, {"[1|a]]", 5}, {"[[1|2]|[3]]", 7}, {"[1, 2]", 3},
		{"[1|{}", 5}, {"[1|{1,[2|3],[4]}|", 16}, {"[1|{1,[2|3],[4]},", 16}, {"[1|{1,[2|[3]]}]", 9},
		// bins
		{"<", 1}, {"<<", 2}, {"<1>", 1}, {"<<>", 3}, {"<<>1", 3}, {"<<1", 3}, {"<<1>", 4}, {"<<1>1", 4}, {"<<1,", 4}, {"<<1,>>", 4}, {"<<,1>>", 2}, {"<<1,,2>>", 4}, {"<<256>>", 4}, {"<<300>>", 4}, {"<<2550>>", 5}, {"<<1000>>", 5}, {"<<999>>", 4}, {"<<00>>", 3}, {"<<01>>", 3}, {"<<-1>>", 2}, {"<<a>>", 2}, {"<<1 >>", 3}, {"<<1|2>>", 3}, {"<<1>>>", 5}, {"<<[]>>", 2}, {"<<<<>>>>", 2},
		{"[1,", 3},
	}
	for _, c := range cases {
		x, err := Parse(c.s)
		wantChain(t, strconv.Quote(c.s), err, api.ErrBytes, "parse", c.n)
		if !same(x, api.Term{}) {
			t.Errorf("%q: %+v", c.s, x)
		}
	}
}

// A text that is cut is too short, or, where what is left is a term, a shorter one; a byte that stands nowhere is wrong where it stands.
func TestTextsThatAreWrongAtEachByte(t *testing.T) {
	for s := range texts() {
		for n := range len(s) {
			x, err := Parse(s[:n])
			if err != nil {
				wantChain(t, s[:n], err, api.ErrBytes, "parse", n)
			} else if text, _ := Write(x); text != s[:n] {
				t.Errorf("%q", s[:n])
			}
			for _, wrong := range []string{"\x00", "\n", "\x7f", "\x80", "\xff"} {
				_, err := Parse(s[:n] + wrong + s[n:])
				wantChain(t, s[:n]+wrong+s[n:], err, api.ErrBytes, "parse", n)
			}
		}
		_, err := Parse(s + "\x00")
		wantChain(t, s, err, api.ErrBytes, "parse", len(s))
	}
}

func TestParseBeyondTheLimits(t *testing.T) {
	deep := func(n int) string { return strings.Repeat("{", n) + strings.Repeat("}", n) }
	ones := func(n int) string { return strings.Repeat(",1", n)[1:] }
	const most = api.MaxTerms
	cases := []struct {
		name, s string
		n       int // of the part; -1: none
	}{
		{"as deep as may be", deep(api.MaxDepth), -1},
		{"one too deep", deep(api.MaxDepth + 1), api.MaxDepth},
		{"a number too deep", strings.Repeat("[", api.MaxDepth) + "1" + strings.Repeat("]", api.MaxDepth), api.MaxDepth},
		{"nil too deep", strings.Repeat("[", api.MaxDepth) + "[]" + strings.Repeat("]", api.MaxDepth), api.MaxDepth},
		{"nil as deep as may be", strings.Repeat("[", api.MaxDepth) + strings.Repeat("]", api.MaxDepth), -1},
		{"a bin too deep", strings.Repeat("[", api.MaxDepth) + "<<1,2>>" + strings.Repeat("]", api.MaxDepth), api.MaxDepth},
		{"far too deep", deep(3000000), api.MaxDepth},
		{"lists far too deep", strings.Repeat("[", 3000000) + strings.Repeat("]", 3000000), api.MaxDepth},
		{"Rests far too deep", strings.Repeat("[1|{", 1000000) + strings.Repeat("}]", 1000000), 3 * api.MaxDepth / 2},
		{"a Rest too deep", strings.Repeat("{", api.MaxDepth-1) + "[1|2]" + strings.Repeat("}", api.MaxDepth-1), api.MaxDepth},
		{"behind others", "[1,{2,3}," + deep(api.MaxDepth) + "|4]", 5 + api.MaxDepth - 1},
		{"as many as may be", "{" + ones(most-1) + "}", -1},
		{"one too many", "{" + ones(most) + "}", most},
		{"far too many", "[" + ones(1000000) + "]", most},
		{"a Rest, as many as may be", "[" + ones(most-2) + "|1]", -1},
		{"a Rest too many", "[" + ones(most-1) + "|1]", most},
		{"bytes, as many as may be", "<<" + ones(most-1) + ">>", -1},
		{"a byte too many", "<<" + ones(most) + ">>", 0},
		{"bytes far too many", "{1,<<" + ones(1000000) + ">>}", 2},
		{"behind bytes", "{<<" + ones(most-3) + ">>,1,[]}", 3},
		{"many ahead of deep", "{{" + ones(most) + "}," + deep(300) + "}", most},
		{"deep ahead of many", "{" + deep(300) + ",{" + ones(most) + "}}", api.MaxDepth},
	}
	for _, c := range cases {
		x, err := Parse(c.s)
		if c.n < 0 {
			if s, _ := Write(x); s != c.s || err != nil {
				t.Errorf("%s: %v", c.name, err)
			}
			continue
		}
		wantChain(t, c.name, err, api.ErrFull, "parse", 0, "term", c.n)
		if !same(x, api.Term{}) {
			t.Errorf("%s: a term", c.name)
		}
		end := len(c.s) - 1
		for s, at := range map[string]int{c.s + "}": end + 1, c.s[:end]: end, c.s[:end] + "x": end} { // the whole text is looked at first
			x, err := Parse(s)
			wantChain(t, c.name, err, api.ErrBytes, "parse", at)
			if !same(x, api.Term{}) {
				t.Errorf("%s: a term", c.name)
			}
		}
	}
}

func TestParseIsNewMemory(t *testing.T) {
	for i, x := range append(good(), randoms(300, 60)...) {
		s, _ := Write(x)
		a, _ := Parse(s)
		b, _ := Parse(s)
		ruin(a)
		spoil(b)
		if !same(b, x) {
			t.Errorf("%d: %s", i, s)
		}
	}
}

// P2.6

func TestParseOfWrite(t *testing.T) {
	for i, x := range append(good(), randoms(5000, 200)...) {
		s, err := Write(x)
		if err != nil {
			t.Fatalf("%d: %v", i, err)
		}
		if y, err := Parse(s); !same(x, y) || err != nil {
			t.Errorf("%d: %s: %v", i, s, err)
		}
	}
}

// place is the byte at which a text is wrong; -1: it is a term's.
func place(t *testing.T, s string) int {
	x, err := Parse(s)
	if err == nil {
		if got, err := Write(x); got != s || err != nil {
			t.Errorf("%q is written as %q, %v", s, got, err)
		}
		return -1
	}
	var f *api.Fault
	if !errors.As(err, &f) || f.Op != "parse" || f.Err != error(api.ErrBytes) || f.N < 0 || f.N > len(s) {
		t.Fatalf("%q: %v", s, err)
	}
	return f.N
}

// closing is a way in which a text that ends too soon may go on to its end.
func closing(s string) string {
	var open []byte
	for i := 0; i < len(s); i++ {
		switch s[i] {
		case '{', '[':
			open = append(open, s[i]+2)
		case '}', ']':
			open = open[:len(open)-1]
		}
	}
	slices.Reverse(open)
	return string(open)
}

// All short texts of some bytes: each is a term's, or no longer text goes on at the byte that is told, and one does ahead of it.
func TestAllShortTexts(t *testing.T) {
	const letters = "{}[],|01-a#p<>'\\x7f"
	middles := []string{"", "1", "p1", "1>>", "<1>>", ">", ">>", "<>>", "A'", "'", "0A'", "x00'", "00'", "0'", "f'", "'A'"}
	var grow func(s string, n int)
	grow = func(s string, n int) {
		at := place(t, s)
		if at >= 0 && at < len(s) {
			if at != len(s)-1 {
				t.Errorf("%q: %d", s, at)
			}
			for _, more := range []string{"", "1", "}", "]", "'", "A'", ">>", "\x00"} {
				if place(t, s+more) != at {
					t.Errorf("%q is not wrong at %d", s+more, at)
				}
			}
			return
		}
		found := at < 0 || strings.Contains(s, "'") // (brackets in quotes are none)
		for i := 0; i < len(middles) && !found; i++ {
			found = place(t, s+middles[i]+closing(s)) < 0
		}
		if !found {
			t.Errorf("%q does not go on", s)
		}
		for i := range len(letters) {
			if n > 0 {
				grow(s+letters[i:i+1], n-1)
			}
		}
	}
	grow("", 6)
}
