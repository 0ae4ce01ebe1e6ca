package bif_test

import (
	"slices"
	"testing"

	"troupe/api"
	"troupe/bif"
)

// P8.2: which reason, of terms of every kind in every place

// samples are terms of every kind, of which the number is one that each function of numbers and places takes.
func samples() []string {
	return []string{"1", "a", "#r1", "#p1", "{}", "{1,2}", "[]", "[1,2]", "[a]", "[1|2]", "<<>>", "<<1,2>>"}
}

// taken are for each place of a function's arguments the samples that it takes there.
func taken() map[string][][]string {
	any := samples()
	ints := []string{"1"}
	tuples := []string{"{}", "{1,2}"}
	bins := []string{"<<>>", "<<1,2>>"}
	proper := []string{"[]", "[1,2]", "[a]"}
	numbers := []string{"[]", "[1,2]"}
	two := [][]string{ints, ints}
	return map[string][][]string{
		"add": two, "sub": two, "mul": two, "div": two, "rem": two, "neg": {ints}, "band": two, "bor": two, "bxor": two, "bsl": two, "bsr": two,
		"eq": {any, any}, "lt": {any, any}, "compare": {any, any},
		"size": {append(tuples[:2:2], bins...)}, "element": {ints, {"{1,2}"}}, "setelement": {ints, {"{1,2}"}, any}, "list_to_tuple": {proper}, "tuple_to_list": {tuples},
		"append": {proper, any}, "reverse": {proper}, "length": {proper}, "member": {any, proper}, "nth": {ints, {"[1,2]", "[a]"}},
		"is_int": {any}, "is_atom": {any}, "is_pid": {any}, "is_ref": {any}, "is_tuple": {any}, "is_list": {any}, "is_bin": {any},
		"list_to_bin": {numbers}, "bin_to_list": {bins}, "bin_at": {{"<<1,2>>"}, ints}, "bin_part": {{"<<1,2>>"}, ints, ints}, "bin_join": {bins, bins},
		"sum": {numbers}, "seq": two, "atom_to_list": {{"a"}}, "hash": {any},
	}
}

// rows are all rows of so many samples.
func rows(n int) [][]string {
	if n == 0 {
		return [][]string{nil}
	}
	var all [][]string
	for _, row := range rows(n - 1) {
		for _, s := range samples() {
			all = append(all, append(row[:len(row):len(row)], s))
		}
	}
	return all
}

func TestTermsOfEveryKindInEveryPlace(t *testing.T) {
	for n, f := range chapter() {
		places := taken()[f.name]
		for _, row := range rows(f.args) {
			takes := true
			for i, s := range row {
				takes = takes && slices.Contains(places[i], s)
			}
			if takes {
				answers(t, f.name, terms(t, row...)...)
			} else {
				raisesOf(t, f.reason, n, terms(t, row...)...)
			}
		}
	}
}

// The reason is a function's own, whatever else is wrong with the arguments too.
func TestSeveralThatAreWrong(t *testing.T) {
	raises(t, badarith, "div", "a", "0")
	raises(t, badarith, "rem", "[1|2]", "0")
	raises(t, badarith, "bsl", "a", "64")
	raises(t, badarith, "bsr", "<<>>", "-1")
	raises(t, badarith, "sum", "[a|b]")
	raises(t, badarg, "element", "0", "a")
	raises(t, badarg, "element", "a", "{}")
	raises(t, badarg, "setelement", "a", "a", "a")
	raises(t, badarg, "nth", "0", "[1|2]")
	raises(t, badarg, "nth", "a", "[]")
	raises(t, badarg, "list_to_bin", "[256|a]")
	raises(t, badarg, "bin_at", "a", "-1")
	raises(t, badarg, "bin_part", "<<>>", "-1", "a")
	raises(t, badarg, "bin_part", "a", "-1", "9")
	raises(t, badarg, "seq", "a", most)
	raises(t, badarg, "seq", least, "a")
	raises(t, badarg, "append", "[1|2]", "[3|4]")
}

// P8.2: arguments that may not be

// bad is a term that may not be, with the part that is wrong, and the kind.
type bad struct {
	term api.Term
	part int
	kind api.Errno
}

func bads() map[string]bad {
	held := make([]api.Term, 2)
	ring := tup(held...)
	held[0], held[1] = num(1), ring
	thicket := num(1)
	for range 100 {
		thicket = tup(thicket, thicket)
	}
	return map[string]bad{
		"the zero term":         {api.Term{}, 0, api.ErrArg},
		"a kind that is none":   {api.Term{Kind: 9}, 0, api.ErrArg},
		"a kind below":          {api.Term{Kind: -1}, 0, api.ErrArg},
		"a field too many":      {api.Term{Kind: api.Int, N: 1, Name: "a"}, 0, api.ErrArg},
		"an empty name":         {atom(""), 0, api.ErrArg},
		"a list without items":  {list(), 0, api.ErrArg},
		"a list as a Rest":      {open(null(), num(1)), 0, api.ErrArg},
		"two Rests":             {api.Term{Kind: api.List, Items: many(1), Rest: many(2)}, 0, api.ErrArg},
		"a reference below 0":   {api.Term{Kind: api.Ref, N: -1}, 0, api.ErrArg},
		"an item":               {tup(num(1), list(num(1), atom(""))), 4, api.ErrArg},
		"a Rest":                {open(api.Term{}, num(1), num(2)), 3, api.ErrArg},
		"too deep":              {nest(num(1), api.MaxDepth), api.MaxDepth, api.ErrFull},
		"too many items":        {list(many(api.MaxTerms)...), api.MaxTerms, api.ErrFull},
		"too many bytes":        {bin(make([]byte, api.MaxTerms)...), 0, api.ErrFull},
		"one that holds itself": {ring, 2*(api.MaxDepth-1) + 1, api.ErrFull},
		"a thicket":             {thicket, 0, api.ErrFull}, // the part is found below
	}
}

func TestArgumentsThatMayNotBe(t *testing.T) {
	all := bads()
	delete(all, "a thicket")
	for n, f := range chapter() {
		for _, b := range all {
			for i := range f.args {
				args := many(f.args)
				args[i] = b.term
				refuses(t, b.kind, b.part, n, args...)
				for j := range i { // arguments ahead that are only not what the function wants
					args[j] = atom("other")
				}
				refuses(t, b.kind, b.part, n, args...)
			}
		}
	}
}

func TestTheFirstArgumentThatMayNotBe(t *testing.T) {
	first, second := tup(num(1), api.Term{}), nest(num(1), api.MaxDepth)
	for n, f := range chapter() {
		if f.args < 2 {
			continue
		}
		args := many(f.args)
		args[f.args-2], args[f.args-1] = first, second
		refuses(t, api.ErrArg, 2, n, args...)
		args[f.args-2], args[f.args-1] = second, first
		refuses(t, api.ErrFull, api.MaxDepth, n, args...)
	}
}

// An argument that may not be counts ahead of one that is wrong.
func TestAChainAheadOfAReason(t *testing.T) {
	refuses(t, api.ErrArg, 0, number(t, "add"), atom("a"), api.Term{})
	refuses(t, api.ErrArg, 0, number(t, "div"), api.Term{}, num(0))
	refuses(t, api.ErrArg, 1, number(t, "setelement"), num(0), tup(), tup(atom("")))
	refuses(t, api.ErrArg, 3, number(t, "bin_part"), num(0), num(-1), open(api.Term{}, num(1), num(1)))
}

func TestAThicketComesToAnEnd(t *testing.T) {
	thicket := bads()["a thicket"].term
	for n, f := range chapter() {
		args := many(f.args)
		args[f.args-1] = thicket
		if x, reason, err := bif.Do(n, args...); err == nil || reason != "" || !same(x, api.Term{}) {
			t.Errorf("%s: %q, %v", f.name, reason, err)
		}
	}
}

// P8.2: answers that may not be

func TestAnswersThatAreTooDeep(t *testing.T) {
	deep := nest(num(1), api.MaxDepth-1) // as deep as may be
	less := deep.Items[0]
	set, join := number(t, "setelement"), number(t, "append")
	answers(t, "setelement", num(1), tup(num(1)), less)
	refuses(t, api.ErrFull, api.MaxDepth, set, num(1), tup(num(1)), deep)
	refuses(t, api.ErrFull, api.MaxDepth+2, set, num(3), tup(num(1), num(2), num(3), num(4)), deep)
	answers(t, "setelement", num(1), deep, num(1)) // what was deep is gone
	answers(t, "append", list(num(1)), less)
	refuses(t, api.ErrFull, api.MaxDepth+2, join, list(num(1), num(2)), deep)
	refuses(t, api.ErrFull, api.MaxDepth+1, join, list(num(1)), deep)
	answers(t, "append", null(), deep)
	answers(t, "append", list(num(1)), list(less)) // joined, not laid into one another
	answers(t, "append", list(less), list(num(1)))
}

func TestAnswersThatAreTooLarge(t *testing.T) {
	const most = api.MaxTerms - 1 // items, or bytes
	set, join, bytes := number(t, "setelement"), number(t, "append"), number(t, "bin_join")
	whole := tup(many(most)...)
	answers(t, "setelement", num(most), whole, tup())
	refuses(t, api.ErrFull, most+1, set, num(most), whole, tup(num(1)))
	refuses(t, api.ErrFull, most+1, set, num(1), whole, tup(num(1)))
	refuses(t, api.ErrFull, 1, set, num(1), tup(num(1)), bin(make([]byte, most)...))
	answers(t, "append", list(many(30000)...), list(many(most-30000)...))
	refuses(t, api.ErrFull, most+1, join, list(many(30001)...), list(many(most-30000)...))
	refuses(t, api.ErrFull, most+1, join, list(many(most)...), num(1))
	refuses(t, api.ErrFull, 2, join, list(num(1)), bin(make([]byte, most-1)...))
	answers(t, "append", list(num(1)), bin(make([]byte, most-2)...))
	answers(t, "append", list(many(most)...), null())
	answers(t, "bin_join", bin(make([]byte, 1)...), bin(make([]byte, most-1)...))
	refuses(t, api.ErrFull, 0, bytes, bin(1), bin(make([]byte, most)...))
	refuses(t, api.ErrFull, 0, bytes, bin(make([]byte, most)...), bin(make([]byte, most)...))
}

func TestTheGreatestArguments(t *testing.T) {
	const most = api.MaxTerms - 1
	items, bytes := many(most), make([]byte, most)
	for i := range bytes {
		bytes[i] = 1
	}
	if x := answers(t, "list_to_tuple", list(items...)); !same(x, tup(items...)) {
		t.Error("list_to_tuple")
	}
	if x := answers(t, "tuple_to_list", tup(items...)); !same(x, list(items...)) {
		t.Error("tuple_to_list")
	}
	if x := answers(t, "reverse", list(items...)); !same(x, list(items...)) {
		t.Error("reverse")
	}
	if x := answers(t, "list_to_bin", list(items...)); !same(x, bin(bytes...)) {
		t.Error("list_to_bin")
	}
	if x := answers(t, "bin_to_list", bin(bytes...)); !same(x, list(items...)) {
		t.Error("bin_to_list")
	}
	if x := answers(t, "bin_part", bin(bytes...), num(0), num(most)); !same(x, bin(bytes...)) {
		t.Error("bin_part")
	}
	for name, arg := range map[string]api.Term{"length": list(items...), "sum": list(items...), "size": tup(items...)} {
		if x := answers(t, name, arg); !same(x, num(most)) {
			t.Errorf("%s: %+v", name, x)
		}
	}
	if x := answers(t, "member", num(2), list(items...)); !same(x, atom("false")) {
		t.Error("member")
	}
}
