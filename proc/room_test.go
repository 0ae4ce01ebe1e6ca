package proc_test

import (
	"slices"
	"strings"
	"testing"

	"troupe/api"
)

// Memory (the chapter's part of that name)

// The seventh example of the whole: who wants ever more is full at last.
func TestWhoWantsEverMoreIsFull(t *testing.T) {
	p := narrow(8, 8).start(t, parsed(t, "", "f 0 0; cons x0 x0 x0; jump @0"))
	p.says(1000, "full", 5)
	p.isOver()
	p = narrow(1<<10, 1<<9).start(t, parsed(t, "", "f 0 0; cons x0 x0 x0; jump @0"))
	p.says(1<<20, "full", 2*(1<<9/4)+1)
	p.isOver()
}

// Who lets go of what it made goes on for ever.
func TestWhatIsNotHeldIsCollected(t *testing.T) {
	p := narrow(32, 32).start(t, parsed(t, "", "f 0 2; tuple x0 x1 3; cons y1 x0 x0; move y1 x2; bif tuple_to_list x0 x0; jump @0"))
	p.says(50000, "spent", 50000)
	p = narrow(64, 64).start(t, parsed(t, "<<1,2,3>>", "f 0 0; move x0 l0; move x1 l0; bif bin_join x0 x0; jump @0"))
	p.says(50000, "spent", 50000)
	p.audit()
}

// What a full process was to make: what has no room, its heap filled up so far, and what it is then.
func TestFull(t *testing.T) {
	for _, x := range []struct {
		lits, code, args string
		words            int
	}{
		{"", "tuple x1 x0 3", "{1}", 4},
		{"", "tuple x1 x0 3", "{1}", 7},
		{"", "tuple x1 x0 4", "{1}", 11},
		{"", "tuple x0 x0 0", "{1}", 5},
		{"", "cons x1 x0 x0", "{1}", 7},
		{"", "bif tuple_to_list x1 x0", "{1}", 7},
		{"", "bif neg x0 x0", "-9223372036854775808", 7},
		{"{2}", "move x1 l0", "{1}", 7},
		{"{2}", "out l0", "{1}", 4},
		{"{2}", "send l0 x0", "{1}", 7},
		{"{2}", "ifeq x0 l0 @1", "{1}", 7},
		{"{2}", "ifkind l0 1 @1", "{1}", 7},
		{"{2}", "iftuple l0 1 @1", "{1}", 7},
		{"{2}", "iftuple l0 2 @1", "{1}", 7},
		{"{2}", "elem x1 l0 0", "{1}", 7},
		{"{2}", "exit l0", "{1}", 7},
		{"{2}", "raise l0", "{1}", 7},
		{"{2}", "prio l0", "{1}", 7},
		{"{2}", "trap l0", "{1}", 7},
		{"{2}", "link l0", "{1}", 7},
		{"{2}", "after @1 l0", "{1}", 7},
		{"{2} {3}", "cons x1 l0 l1", "{1}", 11},
		{"{2} {3}", "cons x1 l0 l1", "{1}", 15},
	} {
		m := parsed(t, x.lits, "f 1 0; try @3; "+x.code+"; exit x0; out x0; ret")
		p := narrow(x.words, x.words).start(t, m, tm(x.args))
		p.gets("m", false)
		p.says(1, "spent", 1)
		before := p.Roots()
		p.says(9, "full", 1)
		p.is(false, false, "m")
		after := p.Roots()
		for _, w := range before { // nothing is turned
			at := slices.Index(after, w)
			if at < 0 {
				t.Fatalf("%s: %v, not %v", x.code, after, before)
			}
			after = slices.Delete(after, at, at+1)
		}
		for _, w := range after { // but that literals may be laid
			if got, err := p.Heap().Load(w); err != nil || !slices.Contains(strings.Fields(x.lits), written(got)) {
				t.Fatalf("%s: %v", x.code, after)
			}
		}
		if got, err := p.Heap().Load(13); err != nil || written(got) != x.args {
			t.Fatalf("%s: %v", x.code, err)
		}
		p.isOver()
		q := narrow(32, 32).start(t, m, tm(x.args)) // with room it goes on
		if stop, _ := q.Run(2); stop.Kind == api.Full {
			t.Fatalf("%s", x.code)
		}
	}
}

// The quota counts, not only the size.
func TestTheQuotaCounts(t *testing.T) {
	p := narrow(1<<10, 8).start(t, parsed(t, "", "f 0 0; tuple x0 x1 1; tuple x0 x0 1; tuple x0 x0 1; ret"))
	p.says(9, "full", 3)
}

// What has no room is tried once more behind a collection, of each kind of thing.
func TestRoomBehindACollection(t *testing.T) {
	for _, x := range []struct{ lits, code, want string }{
		{"", "tuple x1 x1 2", "{[],[]}"},
		{"", "cons x1 x2 x2", "[[]]"},
		{"", "bif list_to_tuple x1 x1", "{}"},
		{"[a]", "move x1 l0", "[a]"},
		{"[a]", "head x1 l0", "a"},
		{"{a}", "elem x1 l0 0", "a"},
	} {
		p := narrow(8, 8).start(t, parsed(t, x.lits, "f 1 0; move x0 x2; "+x.code+"; out x1; ret"), tm("{1,{2}}"))
		p.says(1, "spent", 1)
		if p.Heap().Used() != 8 {
			t.Fatalf("%d places are used", p.Heap().Used())
		}
		p.run("outs: "+x.want+" /2", "ends: normal /1")
		p.audit()
	}
}

// Binaries are given back by a collection too.
func TestBinariesBehindACollection(t *testing.T) {
	l := few(2, 6)
	p := l.start(t, parsed(t, "", "f 2 0; move x0 x2; bif bin_part x0 x1; ret", "g 0 0; ret"), tms("<<1,2,3>>", "<<4,5>>")...)
	p.says(9, "ends: badarg", 2)
	l = few(2, 6)
	p = l.start(t, parsed(t, "0 3", "f 2 0; move x0 x5; move x2 l0; move x3 l1; bif list_to_bin x0 x5; out x0; out x1; ret"), tms("<<1,2,3>>", "<<4,5>>")...)
	p.run("outs: <<>> /5", "outs: <<4,5>> /1", "ends: normal /1")
	if got := l.bins.Handles(); !slices.Equal(got, []int{4096, 1}) {
		t.Fatalf("%v", got)
	}
	// and what is held has no room with another
	l = few(2, 6)
	p = l.start(t, parsed(t, "", "f 2 0; bif bin_join x0 x0; ret"), tms("<<1,2,3>>", "<<4,5>>")...)
	p.says(9, "full", 1)
	l = few(9, 6)
	p = l.start(t, parsed(t, "", "f 2 0; bif bin_join x0 x0; ret"), tms("<<1,2,3>>", "<<4,5>>")...)
	p.says(9, "full", 1)
	p.isOver()
	if l.bins.Used() != 5 {
		t.Fatal("something is turned")
	}
}

// An atom that is raised wants a number in the table, caught or not.
func TestAtomsThatAreRaisedWithoutRoom(t *testing.T) {
	for _, code := range []string{"head x0 x0", "link x0", "bif neg x0 x0", "call g"} {
		for _, caught := range []bool{true, false} {
			l := roomy()
			text := "f 0 0; move x0 x0; " + code + "; ret"
			if caught {
				text = "f 0 0; try @3; " + code + "; exit x0; out x0; ret"
			}
			p := l.start(t, parsed(t, "", text, "g 0 0; call g; ret"))
			l.fillAtoms()
			used := 2
			if code == "call g" {
				used += api.Frames - 1
			}
			p.says(1<<20, "full", used)
			p.isOver()
		}
	}
	// normal is told, not raised
	l := roomy()
	p := l.start(t, parsed(t, "", "f 0 0; ret"))
	l.fillAtoms()
	p.says(9, "ends: normal", 1)
}

// Literals

// Each is laid when an instruction first needs it, once, and held from then on.
func TestLiterals(t *testing.T) {
	l := roomy()
	p := l.start(t, parsed(t, "{1} [a] <<1,2>> b", "f 0 1; move x0 x1; move x0 l1; move y0 l1; out l0; move x0 l1; move x0 l2; move x0 x1; move y0 x1; move x0 l2; ifeq l3 l3 @11; ret; ret"))
	uses := func(places, atoms, bins int) {
		t.Helper()
		if p.Heap().Used() != places || l.atoms.Len() != atoms || len(l.bins.Handles()) != bins {
			t.Fatalf("%d places, %d atoms, %d binaries", p.Heap().Used(), l.atoms.Len(), len(l.bins.Handles()))
		}
		if p.Collect() != 0 {
			t.Fatal("collected")
		}
	}
	uses(0, 0, 0)
	for _, x := range []struct{ places, atoms, bins int }{{0, 0, 0}, {4, 1, 0}, {4, 1, 0}, {8, 1, 0}, {8, 1, 0}, {16, 1, 1}, {16, 1, 1}, {16, 1, 1}, {16, 1, 1}, {16, 2, 1}} {
		p.Run(1)
		uses(x.places, x.atoms, x.bins)
	}
	p.audit()
	if n, _ := l.bins.Count(0); n != 1 {
		t.Fatalf("held %d times", n)
	}
}

// One that an instruction does not come to is not laid.
func TestLiteralsThatAreNotNeeded(t *testing.T) {
	p := begun(t, "{1} {2} {3}", "f 0 0; jump @2; out l0; send x0 x0; out l1; ret")
	p.says(9, "ends: badarg", 2)
	if p.Heap().Used() != 0 {
		t.Fatal("laid")
	}
}

// What is laid once is the same word ever after, also in other functions and frames.
func TestLiteralsAreLaidOnceInAll(t *testing.T) {
	p := begun(t, "{1,[2]}", "f 0 0; move x0 l0; call g; call g; last g", "g 0 1; move y0 l0; move x1 l0; ret")
	for range 20 {
		p.Run(1)
		if p.Heap().Used() != 8 {
			t.Fatalf("%d places are used", p.Heap().Used())
		}
	}
	p.says(1, "ends", 0)
}

// Terms on a heap may be greater than what can be told.

// grown is a process whose x0 was made by an instruction that was done so many times, and which goes on with code, whose first instruction is the eighth.
func grown(t *testing.T, grow string, times int, code string) *tester {
	t.Helper()
	loop := "f 0 1; move x2 l0; move x3 l1; ifeq x2 l2 @4; jump @7; " + grow + "; bif sub x2 x2; jump @2; "
	p := narrow(api.MaxWords, api.MaxWords).start(t, parsed(t, itoa(times)+" 1 0 {} #p1 a", loop+code, "g 1 0; ret", "h 0 0; out x0; ret"))
	p.says(2+4*times+2, "spent", 2+4*times+2)
	return p
}

// As often as this it is done, and may still be told.
const (
	deepest = api.MaxDepth - 1 // nil within
	widest  = 16               // each time twice as many parts
)

func TestWhatCanNotBeToldIsFull(t *testing.T) {
	for _, x := range []struct {
		grow string
		most int
	}{{"tuple x0 x0 1", deepest}, {"cons x0 x0 x1", deepest}, {"cons x0 x0 x0", widest}} {
		for _, code := range []string{"out x0", "send l4 x0", "send l5 x0", "kill l4 x0", "spawn x5 g x0", "bif is_int x5 x0", "ifeq x0 x0 @0", "ifeq l0 x0 @0", "ifeq x0 l0 @0", "iflt x0 l0 @0", "iflt l0 x0 @0", "raise x0", "exit x0"} {
			for extra := range 2 {
				p := grown(t, x.grow, x.most+extra, code+"; ret")
				p.gets("m", false)
				stop, used := p.Run(1)
				if is := stop.Kind == api.Full; is != (extra == 1) || used != 1 || is && (stop.N != 0 || stop.Terms != nil) {
					t.Fatalf("%s, %d times, %s: %d, %d", x.grow, x.most+extra, code, stop.Kind, used)
				}
				if extra == 1 {
					p.is(false, false, "m")
					p.isOver()
				}
			}
		}
	}
}

// What is not told may be as great as there is room for.
func TestWhatIsNotToldMayBeGreater(t *testing.T) {
	p := grown(t, "cons x0 x0 x0", 40, "ifkind x0 7 @8; ifkind x0 9 @9; move x4 x0; tuple x5 x0 3; cons x4 x0 x5; iftuple x5 3 @13; elem x6 x5 0; head x6 x4; tail x6 x4; move y0 x6; call g; peek x0 @19; ret")
	p.says(13, "spent", 13)
	p.says(9, "ends: normal", 1)
	// raised, and caught
	p = grown(t, "tuple x0 x0 1", 300, "try @9; raise x0; iftuple x0 1 @12; elem x0 x0 0; exit l0; exit l1")
	p.says(4, "spent", 4)
	p.says(9, "ends: 300", 1)
}

// badarg is ahead of what can not be told.
func TestBadargIsAheadOfTelling(t *testing.T) {
	for _, line := range []string{"send x0 x0", "send x1 x0", "kill x0 x0", "kill l5 x0", "link x0", "unlink x0", "demon x0", "monitor x5 x0", "where x5 x0", "reg x0", "unreg x0", "cancel x5 x0", "trap x0", "prio x0", "after @0 x0", "elem x5 x0 1", "head x5 x0"} {
		p := grown(t, "tuple x0 x0 1", 300, line+"; ret")
		p.says(1, "ends: badarg", 1)
	}
	for _, x := range []struct{ regs, want string }{{"move x5 x0; move x6 l4; move x7 x0", "ends: badarg"}, {"move x5 l0; move x6 x0; move x7 x0", "ends: badarg"}, {"move x5 l0; move x6 l4; move x7 x0", "full"}} {
		p := grown(t, "tuple x0 x0 1", 300, x.regs+"; timer x0 x5; ret")
		p.says(9, x.want, 4)
	}
}

// A chain of ErrFull of what a function answers is memory.
func TestWhatAFunctionAnswersMayBeTooGreat(t *testing.T) {
	for extra := range 2 {
		want := []string{"outs: 1", "full"}[extra]
		p := grown(t, "cons x0 x0 x0", widest-1+extra, "move x1 x0; bif append x0 x0; out l1; ret")
		p.says(9, want, 3-extra)
		p = grown(t, "tuple x0 x0 1", deepest-1+extra, "cons x5 l1 x1; move x6 x0; bif append x7 x5; out l1; ret")
		p.says(9, want, 4-extra)
	}
	// it is caught by no try
	p := grown(t, "cons x0 x0 x0", widest, "try @11; move x1 x0; bif append x0 x0; exit l0; out x0; ret")
	p.says(9, "full", 3)
	p.isOver()
}
