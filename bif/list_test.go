package bif_test

import (
	"math"
	"testing"

	"troupe/api"
	"troupe/bif"
)

// entry is a function as the chapter's list has it: by number, with its name, how many arguments it has, and its reason.
type entry struct {
	name   string
	args   int
	reason string
}

func chapter() []entry {
	return []entry{
		0: {"add", 2, badarith}, 1: {"sub", 2, badarith}, 2: {"mul", 2, badarith}, 3: {"div", 2, badarith}, 4: {"rem", 2, badarith},
		5: {"neg", 1, badarith}, 6: {"band", 2, badarith}, 7: {"bor", 2, badarith}, 8: {"bxor", 2, badarith}, 9: {"bsl", 2, badarith}, 10: {"bsr", 2, badarith},
		11: {"eq", 2, ""}, 12: {"lt", 2, ""}, 13: {"compare", 2, ""},
		14: {"size", 1, badarg}, 15: {"element", 2, badarg}, 16: {"setelement", 3, badarg}, 17: {"list_to_tuple", 1, badarg}, 18: {"tuple_to_list", 1, badarg},
		19: {"append", 2, badarg}, 20: {"reverse", 1, badarg}, 21: {"length", 1, badarg}, 22: {"member", 2, badarg}, 23: {"nth", 2, badarg},
		24: {"is_int", 1, ""}, 25: {"is_atom", 1, ""}, 26: {"is_pid", 1, ""}, 27: {"is_ref", 1, ""}, 28: {"is_tuple", 1, ""}, 29: {"is_list", 1, ""}, 30: {"is_bin", 1, ""},
		31: {"list_to_bin", 1, badarg}, 32: {"bin_to_list", 1, badarg}, 33: {"bin_at", 2, badarg}, 34: {"bin_part", 3, badarg}, 35: {"bin_join", 2, badarg},
		36: {"sum", 1, badarith}, 37: {"seq", 2, badarg}, 38: {"atom_to_list", 1, badarg}, 39: {"hash", 1, ""},
	}
}

// numbersOfNone are numbers of no function.
func numbersOfNone() []int {
	return []int{math.MinInt, -40, -2, -1, 40, 41, 100, 255, 256, 296, 1 << 32, 1<<32 + 1, math.MaxInt}
}

// P8.1

func TestTheList(t *testing.T) {
	for n, want := range chapter() {
		if got := bif.Number(want.name); got != n {
			t.Errorf("%s: %d, not %d", want.name, got, n)
		}
		name, args, ok := bif.Name(n)
		if name != want.name || args != want.args || !ok {
			t.Errorf("%d: %q %d %v", n, name, args, ok)
		}
	}
}

func TestNamesOfNone(t *testing.T) {
	names := []string{"", "undef", "badarg", "Add", "ADD", "ad", "addd", " add", "add ", "add\x00", "add/2", "add 2", "0", "-1", "is_", "is_nil", "isint", "is-int", "é", "\xff", "list_to_tupl", "tuple_to_lis", "true", "true2"}
	for _, name := range names {
		if n := bif.Number(name); n != -1 {
			t.Errorf("%q: %d", name, n)
		}
	}
}

func TestNumbersOfNone(t *testing.T) {
	for _, n := range numbersOfNone() {
		if name, args, ok := bif.Name(n); name != "" || args != 0 || ok {
			t.Errorf("%d: %q %d %v", n, name, args, ok)
		}
	}
}

// P8.2: undef

// sets are arguments of all kinds, one to five, some of which may not be.
func sets() [][]api.Term {
	return [][]api.Term{
		{}, {num(1)}, {num(1), num(2)}, {num(1), tup(num(2)), num(3)}, {num(1), num(2), num(3), num(4)}, many(100),
		{{}}, {{}, {}}, {num(1), {Kind: 9}}, {atom(""), num(1), num(2)}, {{}, {}, {}, {}, {}}, {nest(num(1), 300)},
	}
}

func TestNumbersOfNoneAreUndef(t *testing.T) {
	for _, n := range numbersOfNone() {
		for _, args := range sets() {
			raisesOf(t, undef, n, args...)
		}
	}
}

func TestTooFewOrTooManyArgumentsAreUndef(t *testing.T) {
	for n, f := range chapter() {
		for _, args := range sets() {
			if len(args) != f.args {
				raisesOf(t, undef, n, args...)
			}
		}
	}
}

func TestNoArgumentsNilOrEmpty(t *testing.T) {
	for n := range chapter() {
		raisesOf(t, undef, n)
		raisesOf(t, undef, n, []api.Term{}...)
	}
}

// The chapter's own examples.
func TestExamples(t *testing.T) {
	says(t, "-9223372036854775808", "add", "9223372036854775807", "1")
	raises(t, badarith, "div", "1", "0")
	says(t, "[1|2]", "append", "[1]", "2")
	says(t, "[2,1]", "reverse", "[1,2]")
}
