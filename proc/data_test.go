package proc_test

import (
	"slices"
	"strings"
	"testing"

	"troupe/api"
	"troupe/bif"
	"troupe/tree"
)

// effect is what an instruction does, behind others: whether it goes on, jumped (to @J), or raised something, and registers 0 to 2 and both slots then. It has a try around it, and costs one reduction, whatever it does. Literals stand from l3 on.
func effect(t *testing.T, lits, setup, line, args string) string {
	t.Helper()
	before := []string{"try @H"}
	for _, s := range strings.Split(setup, ";") {
		if s = strings.TrimSpace(s); s != "" {
			before = append(before, s)
		}
	}
	k := len(before)
	tell := []string{"out x0", "out x1", "out x2", "out y0", "out y1", "exit l0"}
	code := slices.Concat(before, []string{line}, tell, []string{"out l1", "jump @" + itoa(k+1), "out l2"}, tell)
	text := strings.Join(code, "; ")
	text = strings.ReplaceAll(text, "@J", "@"+itoa(k+1+len(tell)))
	text = strings.ReplaceAll(text, "@H", "@"+itoa(k+1+len(tell)+2))
	given := tms(strings.Fields(args)...)
	p := roomy().start(t, parsed(t, "done jumped raised "+lits, "f "+itoa(len(given))+" 2; "+text, "g 0 0; ret"), given...)
	for range k + 1 {
		p.says(1, "spent", 1)
	}
	var outs []string
	for range 10 {
		stop, _ := p.Run(9)
		if stop.Kind == api.Ends {
			break
		}
		outs = append(outs, allWritten(stop.Terms))
	}
	p.audit()
	return strings.Join(outs, " ")
}

// does wants an instruction to have such an effect.
func does(t *testing.T, lits, setup, line, args, want string) {
	t.Helper()
	if got := effect(t, lits, setup, line, args); got != want {
		t.Errorf("%s; %s of %s: %s, not %s", setup, line, args, got, want)
	}
}

func TestMove(t *testing.T) {
	does(t, "", "", "move x2 x0", "a b", "a b a [] []")
	does(t, "", "", "move x0 x0", "a b", "a b [] [] []")
	does(t, "", "", "move y1 x0", "{a,b}", "{a,b} [] [] [] {a,b}")
	does(t, "", "move y1 x0", "move x2 y1", "{a,b}", "{a,b} [] {a,b} [] {a,b}")
	does(t, "", "move y1 x0", "move y0 y1", "<<1>> b", "<<1>> b [] <<1>> <<1>>")
	does(t, "{1,[2]} 7", "", "move x1 l3", "a b", "a {1,[2]} [] [] []")
	does(t, "{1,[2]} 7", "", "move y0 l4", "a b", "a b [] 7 []")
	for _, s := range samples() {
		does(t, s, "", "move x1 l3", "a", "a "+s+" [] [] []")
		does(t, "", "", "move x2 x1", "a "+s, "a "+s+" "+s+" [] []")
	}
}

func TestTuple(t *testing.T) {
	does(t, "", "", "tuple x2 x0 0", "a b", "a b {} [] []")
	does(t, "", "", "tuple x2 x15 0", "a b", "a b {} [] []")
	does(t, "", "", "tuple y0 x15 1", "a b", "a b [] {[]} []")
	does(t, "", "", "tuple x2 x1 1", "a {b}", "a {b} {{b}} [] []")
	does(t, "", "", "tuple x0 x0 2", "a {b}", "{a,{b}} {b} [] [] []")
	does(t, "", "", "tuple y1 x0 3", "a <<1>> [c|d]", "a <<1>> [c|d] [] {a,<<1>>,[c|d]}")
	does(t, "", "", "tuple x1 x0 16", "a b c", "a {a,b,c,[],[],[],[],[],[],[],[],[],[],[],[],[]} c [] []")
	does(t, "", "tuple x0 x0 2", "tuple x0 x0 2", "a b", "{{a,b},b} b [] [] []")
}

func TestCons(t *testing.T) {
	does(t, "", "", "cons x2 x0 x1", "a []", "a [] [a] [] []")
	does(t, "", "", "cons x2 x0 x1", "a [b]", "a [b] [a,b] [] []")
	does(t, "", "", "cons x2 x0 x1", "a [b|c]", "a [b|c] [a,b|c] [] []")
	does(t, "", "", "cons y1 x0 x0", "[b]", "[b] [] [] [] [[b],b]")
	does(t, "", "", "cons x0 x0 x0", "[]", "[[]] [] [] [] []")
	does(t, "{1} [2]", "", "cons x0 l3 l4", "a", "[{1},2] [] [] [] []")
	does(t, "{1}", "move y0 x0", "cons x0 y0 l3", "a", "[a|{1}] [] [] a []")
	for _, s := range samples() {
		want := "[a|" + s + "]"
		switch kindOf(s) {
		case api.Nil:
			want = "[a]"
		case api.List:
			want = "[a," + s[1:]
		}
		does(t, "", "", "cons x2 x0 x1", "a "+s, "a "+s+" "+want+" [] []")
	}
}

func TestJump(t *testing.T) {
	does(t, "", "", "jump @J", "a", "jumped a [] [] [] []")
	does(t, "", "", "jump @2", "a", "a [] [] [] []")
	does(t, "", "move x1 x0", "jump @3", "a", "a a [] [] []")
}

func TestComparing(t *testing.T) {
	for _, a := range samples() {
		for _, b := range samples() {
			for _, x := range []struct {
				word  string
				holds bool
			}{{"ifeq", tree.Compare(tm(a), tm(b)) == 0}, {"iflt", tree.Compare(tm(a), tm(b)) < 0}} {
				want := a + " " + b + " [] [] []"
				if !x.holds {
					want = "jumped " + want
				}
				does(t, "", "", x.word+" x0 x1 @J", a+" "+b, want)
			}
		}
	}
	does(t, "{1,<<2>>} 9", "move y0 x0", "ifeq y0 l3 @J", "{1,<<2>>}", "{1,<<2>>} [] [] {1,<<2>>} []")
	does(t, "{1,<<2>>} 9", "move y0 x0", "ifeq l4 y0 @J", "{1,<<2>>}", "jumped {1,<<2>>} [] [] {1,<<2>>} []")
	does(t, "1 2", "", "iflt l3 l4 @J", "a", "a [] [] [] []")
	does(t, "1 2", "", "iflt l4 l3 @J", "a", "jumped a [] [] [] []")
}

func TestIfKind(t *testing.T) {
	for _, s := range samples() {
		for kind := 1; kind <= 9; kind++ {
			is := kind == kindOf(s)
			if kind == 9 {
				is = kindOf(s) == api.Nil || kindOf(s) == api.List
			}
			want := s + " [] [] [] []"
			if !is {
				want = "jumped " + want
			}
			does(t, "", "", "ifkind x0 "+itoa(kind)+" @J", s, want)
			does(t, s, "", "ifkind l3 "+itoa(kind)+" @J", s, want)
		}
	}
}

func TestIfTuple(t *testing.T) {
	for _, s := range samples() {
		for _, n := range []int{0, 1, 2, 3, 4, 1 << 16} {
			want := s + " [] [] [] []"
			if kindOf(s) != api.Tuple || len(tm(s).Items) != n {
				want = "jumped " + want
			}
			does(t, "", "", "iftuple x0 "+itoa(n)+" @J", s, want)
		}
	}
	does(t, "{1,2}", "move y1 l3", "iftuple y1 2 @J", "a", "a [] [] [] {1,2}")
	does(t, "{1,2}", "", "iftuple l3 3 @J", "a", "jumped a [] [] [] []")
}

func TestElem(t *testing.T) {
	does(t, "", "", "elem x2 x0 0", "{a,[b],c} x", "{a,[b],c} x a [] []")
	does(t, "", "", "elem x0 x0 1", "{a,[b],c} x", "[b] x [] [] []")
	does(t, "", "", "elem y1 x0 2", "{a,[b],c} x", "{a,[b],c} x [] [] c")
	does(t, "{d,{e}}", "", "elem y0 l3 1", "x", "x [] [] {e} []")
	does(t, "", "move y0 x0", "elem x0 y0 0", "{{}}", "{} [] [] {{}} []")
	for _, s := range samples() {
		for _, i := range []int{0, 1, 2, 3, 1 << 16} {
			want := s + " y"
			if kindOf(s) == api.Tuple && i < len(tm(s).Items) {
				want += " " + written(tm(s).Items[i]) + " [] []"
			} else {
				want = "raised badarg y [] [] []"
			}
			does(t, "", "", "elem x2 x0 "+itoa(i), s+" y", want)
		}
	}
}

func TestHeadAndTail(t *testing.T) {
	for _, s := range samples() {
		head, tail := "raised badarg y [] [] []", "raised badarg y [] [] []"
		if l := tm(s); l.Kind == api.List {
			head = s + " y " + written(l.Items[0]) + " [] []"
			tail = s + " y " + written(tree.Make(l.Items[1:], l.Rest...)) + " [] []"
		}
		does(t, "", "", "head x2 x0", s+" y", head)
		does(t, "", "", "tail x2 x0", s+" y", tail)
	}
	does(t, "", "", "tail x0 x0", "[a]", "[] [] [] [] []")
	does(t, "", "", "tail x0 x0", "[a|b]", "b [] [] [] []")
	does(t, "", "", "tail x0 x0", "[a|{b}]", "{b} [] [] [] []")
	does(t, "", "", "tail y0 x0", "[a,b,c]", "[a,b,c] [] [] [b,c] []")
	does(t, "[[a],b|c]", "", "head y1 l3", "x", "x [] [] [] [a]")
	does(t, "[[a],b|c]", "move y1 l3", "tail x0 y1", "x", "[b|c] [] [] [] [[a],b|c]")
}

// Each function of bif does what bif says of the same terms.
func TestBif(t *testing.T) {
	some := []string{"0", "2", "-3", "9223372036854775807", "a", "#p1", "#r2", "{a,1}", "[]", "[1,2]", "[1|2]", "<<>>", "<<1,2,3>>"}
	for n := range 40 {
		name, args, _ := bif.Name(n)
		for _, a := range some {
			for _, b := range some {
				for _, c := range []string{"1", "[]"} {
					all := []string{a, b, c}
					got, reason, err := bif.Do(n, tms(all[:args]...)...)
					if args < 3 && c != "1" || args < 2 && b != "0" || err != nil {
						continue
					}
					want := strings.Join(all, " ") + " " + written(got) + " []"
					if reason != "" {
						want = "raised " + reason + " " + b + " " + c + " [] []"
					}
					does(t, "", "", "bif "+name+" y0 x0", strings.Join(all, " "), want)
				}
			}
		}
	}
	does(t, "", "", "bif add x2 x1", "1 2 3", "1 2 5 [] []")
	does(t, "", "", "bif setelement x0 x0", "1 {a,b} [c]", "{[c],b} {a,b} [c] [] []")
	does(t, "", "", "bif div x1 x0", "1 0", "raised badarith 0 [] [] []")
	does(t, "", "", "bif size x1 x15", "1 0", "raised badarg 0 [] [] []")
	does(t, "", "", "bif reverse y1 x1", "1 [a,b]", "1 [a,b] [] [] [b,a]")
}

// What an instruction goes wrong with ends the process where there is no try, and costs one reduction too.
func TestWhatIsWrongEndsWithoutATry(t *testing.T) {
	for _, x := range []struct{ line, reason string }{{"elem x1 x0 0", "badarg"}, {"head x1 x0", "badarg"}, {"tail x1 x0", "badarg"}, {"bif add x1 x0", "badarith"}, {"bif sum x1 x0", "badarith"}, {"bif length x1 x0", "badarg"}, {"raise x0", "a"}, {"raise l0", "{l,[1]}"}, {"exit x0", "a"}, {"exit l0", "{l,[1]}"}, {"link x0", "badarg"}, {"after @0 x0", "badarg"}} {
		p := roomy().start(t, parsed(t, "{l,[1]}", "f 1 0; move x3 x0; "+x.line+"; ret"), tm("a"))
		p.says(9, "ends: "+x.reason, 2)
		p.isOver()
	}
}
