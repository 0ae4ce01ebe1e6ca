package code_test

import (
	"bytes"
	"math"
	"slices"
	"strings"
	"testing"

	"troupe/api"
	"troupe/code"
)

// P9.1: numbers, and what is wrong with them.

// around lays bytes between others.
func around(head, middle, tail []byte) []byte { return slices.Concat(head, middle, tail) }

// numbers are numbers at each change of how many groups they have.
func numbers() map[int]string {
	return map[int]string{
		0: "00", 1: "01", 63: "3f", 64: "40", 126: "7e", 127: "7f",
		128: "80 01", 129: "81 01", 300: "ac 02", 16383: "ff 7f",
		16384: "80 80 01", 16385: "81 80 01", 1<<21 - 1: "ff ff 7f",
		1 << 21: "80 80 80 01", 1<<28 - 1: "ff ff ff 7f",
		1 << 28: "80 80 80 80 01", 1<<35 - 1: "ff ff ff ff 7f",
		1 << 35: "80 80 80 80 80 01", 1<<40 - 1: "ff ff ff ff ff 1f", 1 << 40: "80 80 80 80 80 20",
	}
}

func TestNumbers(t *testing.T) {
	for n, digits := range numbers() {
		b := bytesOf(t, digits)
		goes(t, "Args "+digits, numbered(n, 0), around(bytesOf(t, "54525045 00 00 01 00"), b, []byte{0, 0}))
		goes(t, "Slots "+digits, numbered(0, n), around(bytesOf(t, "54525045 00 00 01 00 00"), b, []byte{0}))
	}
}

// Counts are numbers too.
func TestCountsAreNumbers(t *testing.T) {
	for n, digits := range numbers() {
		if n > 1<<21 {
			continue
		}
		b := bytesOf(t, digits)
		goes(t, "a name", api.Module{Name: strings.Repeat("\xff", n)}, around(bytesOf(t, "54525045"), b, append(bytes.Repeat([]byte{255}, n), 0, 0)))
		if n > 1<<15 {
			continue
		}
		goes(t, "literals", module(nulls(n)...), around(bytesOf(t, "54525045 00"), b, append(bytes.Repeat([]byte{6}, n), 0)))
		goes(t, "functions", api.Module{Funcs: make([]api.Func, n)}, around(bytesOf(t, "54525045 00 00"), b, make([]byte, 4*n)))
		goes(t, "a function's name", api.Module{Funcs: []api.Func{{Name: strings.Repeat("\x00", n)}}}, around(bytesOf(t, "54525045 00 00 01"), b, make([]byte, n+3)))
		goes(t, "instructions", numbered(0, 0, make([]api.Ins, n)...), around(bytesOf(t, "54525045 00 00 01 00 00 00"), b, make([]byte, 4*n)))
		if n < 256 && n > 0 {
			goes(t, "an atom", module(atom(strings.Repeat("\x01", n))), around(bytesOf(t, "54525045 00 01 02"), b, append(bytes.Repeat([]byte{1}, n), 0)))
			goes(t, "a list", module(list(nulls(n)...)), around(bytesOf(t, "54525045 00 01 07"), b, append(bytes.Repeat([]byte{6}, n), 0, 0)))
		}
		if n < api.MaxTerms {
			goes(t, "a tuple", module(tup(nulls(n)...)), around(bytesOf(t, "54525045 00 01 05"), b, append(bytes.Repeat([]byte{6}, n), 0)))
			goes(t, "a binary", module(bin(make([]byte, n)...)), around(bytesOf(t, "54525045 00 01 08"), b, make([]byte, n+1)))
		}
	}
}

// operands are signed numbers at each change of how many groups they have, as far as an operand goes.
func operands() map[int]string {
	return map[int]string{
		0: "00", -1: "01", 1: "02", -2: "03", 2: "04", 63: "7e", -64: "7f",
		64: "80 01", -65: "81 01", 65: "82 01", 8191: "fe 7f", -8192: "ff 7f",
		8192: "80 80 01", -8193: "81 80 01", 1<<20 - 1: "fe ff 7f", -1 << 20: "ff ff 7f",
		1 << 20: "80 80 80 01", -1<<20 - 1: "81 80 80 01", 1<<27 - 1: "fe ff ff 7f", -1 << 27: "ff ff ff 7f",
		1 << 27: "80 80 80 80 01", -1<<27 - 1: "81 80 80 80 01", 1<<34 - 1: "fe ff ff ff 7f", -1 << 34: "ff ff ff ff 7f",
		1 << 34: "80 80 80 80 80 01", -1<<34 - 1: "81 80 80 80 80 01", 1<<39 - 1: "fe ff ff ff ff 1f", -1<<39 + 1: "fd ff ff ff ff 1f",
		1 << 39: "80 80 80 80 80 20", -1 << 39: "ff ff ff ff ff 1f",
	}
}

func TestOperands(t *testing.T) {
	head := bytesOf(t, "54525045 00 00 01 00 00 00 01 07")
	for n, digits := range operands() {
		b := bytesOf(t, digits)
		goes(t, "A "+digits, numbered(0, 0, api.Ins{Op: 7, A: n}), around(head, b, []byte{0, 0}))
		goes(t, "B "+digits, numbered(0, 0, api.Ins{Op: 7, B: n}), around(head, append([]byte{0}, b...), []byte{0}))
		goes(t, "C "+digits, numbered(0, 0, api.Ins{Op: 7, C: n}), around(head, []byte{0, 0}, b))
	}
	for op := range 256 {
		goes(t, "Op", numbered(0, 0, api.Ins{Op: op, A: 1}), append(bytesOf(t, "54525045 00 00 01 00 00 00 01"), byte(op), 2, 0, 0))
	}
}

// integers are signed numbers beyond what an operand may be, at each change of how many groups they have.
func integers() map[int64]string {
	f := func(head string, middle string, n int, tail string) string {
		return head + strings.Repeat(middle, n) + tail
	}
	return map[int64]string{
		1<<39 + 1: "82 80 80 80 80 20", -1<<39 - 1: "81 80 80 80 80 20", 1<<41 - 1: f("fe", "ff", 4, "7f"), -1 << 41: f("ff", "ff", 4, "7f"),
		1 << 41: f("80", "80", 5, "01"), -1<<41 - 1: f("81", "80", 5, "01"), 1<<48 - 1: f("fe", "ff", 5, "7f"), -1 << 48: f("ff", "ff", 5, "7f"),
		1 << 48: f("80", "80", 6, "01"), -1<<48 - 1: f("81", "80", 6, "01"), 1<<55 - 1: f("fe", "ff", 6, "7f"), -1 << 55: f("ff", "ff", 6, "7f"),
		1 << 55: f("80", "80", 7, "01"), -1<<55 - 1: f("81", "80", 7, "01"), 1<<62 - 1: f("fe", "ff", 7, "7f"), -1 << 62: f("ff", "ff", 7, "7f"),
		1 << 62: f("80", "80", 8, "01"), -1<<62 - 1: f("81", "80", 8, "01"), math.MaxInt64 - 1: f("fc", "ff", 8, "01"), math.MinInt64 + 1: f("fd", "ff", 8, "01"),
		math.MaxInt64: f("fe", "ff", 8, "01"), math.MinInt64: f("ff", "ff", 8, "01"),
	}
}

func TestIntegers(t *testing.T) {
	all := integers()
	for n, digits := range operands() {
		all[int64(n)] = digits
	}
	for n, digits := range all {
		b := bytesOf(t, digits)
		head := bytesOf(t, "54525045 00 01")
		goes(t, "Int "+digits, module(num(n)), around(append(head, 1), b, []byte{0}))
		goes(t, "Int in a list "+digits, module(list(null(), num(n))), around(append(head, 7, 2, 6, 1), b, []byte{0, 0}))
		if n >= 0 && n <= most60 {
			goes(t, "Ref "+digits, module(ref(n)), around(append(head, 3), b, []byte{0}))
			goes(t, "Pid "+digits, module(pid(n)), around(append(head, 4), b, []byte{0}))
			continue
		}
		refusesTerm(t, "Ref "+digits, around(append(head, 3), b, nil), 6, api.ErrArg, 0)
		refusesTerm(t, "Pid "+digits, around(append(head, 4), b, nil), 6, api.ErrArg, 0)
	}
	goes(t, "the greatest Ref", module(ref(most60)), slowWrite(module(ref(most60))))
	refusesTerm(t, "one beyond", slowWrite(module(ref(most60+1))), 6, api.ErrArg, 0)
}

// seats are where numbers stand: what stands ahead of each.
func seats(t *testing.T) (numbers, operands, integers map[string][]byte) {
	numbers = map[string][]byte{
		"a name": bytesOf(t, "54525045"), "literals": bytesOf(t, "54525045 01 61"), "functions": bytesOf(t, "54525045 00 01 06"),
		"a function's name": bytesOf(t, "54525045 00 00 01"), "Args": bytesOf(t, "54525045 00 00 01 01 66"), "Slots": bytesOf(t, "54525045 00 00 01 00 ff 01"),
		"instructions": bytesOf(t, "54525045 00 00 01 00 00 00"), "a second function's Args": bytesOf(t, "54525045 00 00 02 00 00 00 00 00"),
		"an atom": bytesOf(t, "54525045 00 01 02"), "a tuple": bytesOf(t, "54525045 00 02 06 05"), "a list": bytesOf(t, "54525045 00 01 07"), "a binary": bytesOf(t, "54525045 00 01 08"),
		"a Rest": bytesOf(t, "54525045 00 01 07 01 06 01 08"), "a tuple in a tuple": bytesOf(t, "54525045 00 01 05 02 06 05"),
	}
	operands = map[string][]byte{
		"A": bytesOf(t, "54525045 00 00 01 00 00 00 01 01"), "B": bytesOf(t, "54525045 00 00 01 00 00 00 01 ff 80 01"), "C": bytesOf(t, "54525045 00 00 01 00 00 00 02 00 01 02 03 00 00 00"),
	}
	integers = map[string][]byte{
		"Int": bytesOf(t, "54525045 00 01 01"), "Ref": bytesOf(t, "54525045 00 01 03"), "Pid": bytesOf(t, "54525045 00 01 04"),
		"an item": bytesOf(t, "54525045 00 01 05 02 06 01"), "a Rest": bytesOf(t, "54525045 00 01 07 01 06 01 01"),
	}
	return numbers, operands, integers
}

// wrongNumbers are numbers with a group too many, with nothing but high bits, and beyond what they may be.
func wrongNumbers() []string {
	return []string{
		"80 00", "ff 00", "80 80 00", "ff ff 00", "80 80 80 00", "80 80 80 80 00", "80 80 80 80 80 00", "ff ff ff ff ff 00",
		"81 80 80 80 80 20", "80 80 80 80 80 21", "80 81 80 80 80 20", "80 80 80 80 80 40", "80 80 80 80 80 7f", "ff ff ff ff ff 20", "ff ff ff ff ff 7f",
		"80 80 80 80 80 80", "ff ff ff ff ff ff", "81 80 80 80 80 80", "80 80 80 80 80 a0", "80 80 80 80 80 81",
	}
}

// wrongOperands have a group too many, or are beyond what they may be, but are signed numbers still, or nothing but high bits.
func wrongOperands() []string {
	return append(wrongIntegers(), "80 00", "81 00", "ff 00", "80 80 00", "ff ff ff ff 00", "80 80 80 80 80 00", "80 80 80 80 80 80 00",
		"81 80 80 80 80 20", "82 80 80 80 80 20", "80 80 80 80 80 21", "80 80 80 80 80 7f", "ff ff ff ff ff 7f", "80 80 80 80 80 80 01", "81 80 80 80 80 a0 01", "ff ff ff ff ff ff 7f",
		"ff ff ff ff ff ff ff ff ff 01", "fe ff ff ff ff ff ff ff ff 01", "80 80 80 80 80 80 80 80 80 01", "80 80 80 80 80 80 80 80 7f")
}

// wrongIntegers are no signed numbers of 64 bits.
func wrongIntegers() []string {
	return []string{
		"80 00", "81 00", "ff 00", "80 80 00", "80 80 80 80 80 80 00", "80 80 80 80 80 80 80 80 80 00", "ff ff ff ff ff ff ff ff ff 00", "80 80 80 80 80 80 80 80 00",
		"80 80 80 80 80 80 80 80 80 02", "ff ff ff ff ff ff ff ff ff 02", "ff ff ff ff ff ff ff ff ff 03", "80 80 80 80 80 80 80 80 80 04", "80 80 80 80 80 80 80 80 80 7e", "80 80 80 80 80 80 80 80 80 40", "ff ff ff ff ff ff ff ff ff 7f",
		"80 80 80 80 80 80 80 80 80 80", "ff ff ff ff ff ff ff ff ff ff", "80 80 80 80 80 80 80 80 80 81", "80 80 80 80 80 80 80 80 80 82",
	}
}

// A number is wrong at its first byte, whatever stands behind it; but where it ends too soon, at the end.
func TestWrongNumbers(t *testing.T) {
	look := func(seats map[string][]byte, wrong []string, most int) {
		for seat, head := range seats {
			for _, digits := range wrong {
				b := bytesOf(t, digits)
				for _, tail := range [][]byte{nil, {0}, {1}, {128}, {255, 255, 255, 255, 255}, make([]byte, 300)} {
					refusesBytes(t, seat+" "+digits, around(head, b, tail), len(head))
				}
				for n := 1; n < len(b); n++ {
					refusesBytes(t, seat+" "+digits+", cut", around(head, b[:n], nil), len(head)+n)
				}
			}
			for n := 1; n < most; n++ { // too short, as more groups might follow
				for _, high := range []byte{128, 129, 255} {
					refusesBytes(t, seat+" too short", around(head, bytes.Repeat([]byte{high}, n), nil), len(head)+n)
				}
			}
		}
	}
	numbers, operands, integers := seats(t)
	look(numbers, wrongNumbers(), 6)
	look(operands, wrongOperands(), 10)
	look(integers, wrongIntegers(), 10)
}

// A count may be no greater than what is left behind it in bytes.
func TestCountsGreaterThanWhatIsLeft(t *testing.T) {
	numbers, _, _ := seats(t)
	for seat, head := range numbers {
		if strings.HasSuffix(seat, "Args") || seat == "Slots" {
			continue
		}
		for _, left := range []int{0, 1, 2, 5, 126, 127, 128, 129, 1000} {
			for _, fill := range []byte{0, 1, 6, 128, 255} {
				for _, more := range []int{1, 2, 100, 1 << 14, 1 << 33, most40 - left} {
					b := around(head, slowNumber(left+more), bytes.Repeat([]byte{fill}, left))
					refusesBytes(t, seat, b, len(head))
				}
			}
		}
	}
}

// As great as what is left it may be: then it is not wrong itself.
func TestCountsOfAllThatIsLeft(t *testing.T) {
	numbers, _, _ := seats(t)
	ofTerms := []string{"literals", "a tuple", "a list", "a tuple in a tuple"}
	for seat, head := range numbers {
		if strings.HasSuffix(seat, "Args") || seat == "Slots" {
			continue
		}
		for _, left := range []int{1, 2, 3, 4, 5, 127, 128, 400} {
			count := slowNumber(left)
			b, place := around(head, count, make([]byte, left)), len(head)+len(count)
			switch {
			case seat == "an atom" && left > 255:
				refusesTerm(t, seat, b, 6, api.ErrArg, 0)
			case slices.Contains(ofTerms, seat): // no term's kind is 0
				refusesBytes(t, seat, b, place)
			default: // names and binaries take all bytes, functions and instructions four each, and want more
				refusesBytes(t, seat, b, place+left)
			}
		}
	}
}

// Args and Slots are no counts.
func TestNumbersThatAreNoCounts(t *testing.T) {
	m, err := code.Read(bytesOf(t, "54525045 00 00 01 00 80 80 80 80 80 20 80 80 80 80 80 20 00"))
	if !sameModule(m, numbered(most40, most40)) || err != nil {
		t.Errorf("%+v, %v", m, err)
	}
}

func TestWriteAtTheEnds(t *testing.T) {
	f := func(args, slots int, ins ...api.Ins) api.Module { return numbered(args, slots, ins...) }
	for name, m := range map[string]api.Module{
		"all 0": f(0, 0, api.Ins{}), "Args": f(most40, 0), "Slots": f(0, most40), "Op": f(0, 0, api.Ins{Op: 255}),
		"A": f(0, 0, api.Ins{A: most39}), "B": f(0, 0, api.Ins{B: most39}), "C": f(0, 0, api.Ins{C: most39}),
		"A least": f(0, 0, api.Ins{A: -most39}), "B least": f(0, 0, api.Ins{B: -most39}), "C least": f(0, 0, api.Ins{C: -most39}),
		"all of them": f(most40, most40, api.Ins{}, api.Ins{Op: 255, A: most39, B: most39, C: most39}, api.Ins{A: -most39, B: -most39, C: -most39}),
	} {
		goes(t, name, m, slowWrite(m))
	}
}

// wrongFuncs are functions that may not be written.
func wrongFuncs() []api.Func {
	var fs []api.Func
	add := func(ins ...api.Ins) { fs = append(fs, api.Func{Name: "f", Code: ins}) }
	for _, n := range []int{-1, -2, -most40, math.MinInt64, most40 + 1, most40 + 2, 1 << 41, 1 << 62, math.MaxInt64} {
		fs = append(fs, api.Func{Args: n}, api.Func{Slots: n}, api.Func{Args: n, Slots: n}, api.Func{Name: "f", Args: 1, Slots: n, Code: []api.Ins{{Op: 1}}})
	}
	for _, n := range []int{-1, 256, 257, 512, -256, math.MinInt64, math.MaxInt64} {
		add(api.Ins{Op: n})
		add(api.Ins{}, api.Ins{Op: n}, api.Ins{})
	}
	for _, n := range []int{most39 + 1, -most39 - 1, most40, -most40, 1 << 62, math.MinInt64, math.MaxInt64} {
		add(api.Ins{A: n})
		add(api.Ins{B: n})
		add(api.Ins{C: n})
		add(api.Ins{}, api.Ins{}, api.Ins{A: n, B: n, C: n})
	}
	return fs
}

func TestWriteBeyondTheEnds(t *testing.T) {
	right := api.Func{Name: "g", Args: 1, Code: []api.Ins{{Op: 15}}}
	for _, f := range wrongFuncs() {
		refusesWrite(t, "alone", api.Module{Funcs: []api.Func{f}}, 0, api.ErrArg)
		refusesWrite(t, "behind others", api.Module{Name: "m", Lits: nulls(9), Funcs: []api.Func{right, right, f, right}}, 2, api.ErrArg)
		refusesWrite(t, "the first of two", api.Module{Funcs: []api.Func{right, f, right, f}}, 1, api.ErrArg)
		refusesWrite(t, "behind a literal", api.Module{Lits: []api.Term{null(), null(), null(), bin(), {}}, Funcs: []api.Func{f}}, 4, api.ErrArg, "term", 0)
	}
}
