package proc_test

import (
	"runtime"
	"slices"
	"sync"
	"testing"

	"troupe/api"
	"troupe/proc"
	"troupe/word"
)

// scrawl turns all of a term that can be turned, its room too.
func scrawl(terms []api.Term) {
	for i := range terms[:cap(terms)] {
		t := &terms[:cap(terms)][i]
		scrawl(t.Items)
		scrawl(t.Rest)
		for j := range t.Bytes[:cap(t.Bytes)] {
			t.Bytes[:cap(t.Bytes)][j] = 66
		}
		*t = api.Term{Kind: 66, N: 66, Name: "scrawled"}
	}
}

// What Run and Mail tell is nobody else's: turning it turns no process, and no other list.
func TestWhatIsToldIsNobodyElses(t *testing.T) {
	p := begunWith(t, "{a,[b|<<1,2>>]}", "{c,[<<3>>]}", "f 1 0; out x0; out x0; out l0; out l0; send x1 x0; move x1 l0; spawn x3 g x0; spawn x3 g x0; peek x5 @11; out x5; jump @9; exit l0", "g 3 0; ret")
	p.gets("{m,<<4>>}", false)
	outs := func(want string) {
		t.Helper()
		stop, _ := p.Run(1)
		if got := said(stop); got != want {
			t.Fatalf("%s, not %s", got, want)
		}
		scrawl(stop.Terms)
	}
	outs("outs: {a,[b|<<1,2>>]}")
	outs("outs: {a,[b|<<1,2>>]}")
	outs("outs: {c,[<<3>>]}")
	outs("outs: {c,[<<3>>]}")
	for range 3 {
		mail := p.Mail()
		if allWritten(mail) != "{m,<<4>>}" {
			t.Fatal("the mail")
		}
		scrawl(mail)
	}
	outs("ends: badarg")
	outs("ends")

	p = begunWith(t, "{a,[b|<<1,2>>]}", "{c,[<<3>>]}", "f 1 0; move x1 x0; move x2 l0; spawn x3 g x0; spawn x3 g x0; exit l0", "g 3 0; ret")
	p.Run(2)
	for range 2 {
		outs("spawns 1: {a,[b|<<1,2>>]} {a,[b|<<1,2>>]} {c,[<<3>>]}")
	}
	outs("ends: {c,[<<3>>]}")
}

// The terms of one stop share nothing with each other.
func TestTermsOfOneStopShareNothing(t *testing.T) {
	p := begunWith(t, "{a,[b|<<1,2>>]}", "", "f 1 0; move x1 x0; spawn x3 g x0; ret", "g 2 0; ret")
	stop, _ := p.Run(9)
	scrawl(stop.Terms[:1:1])
	if got := written(stop.Terms[1]); got != "{a,[b|<<1,2>>]}" {
		t.Fatal(got)
	}
	mail := func() []api.Term {
		p := begun(t, "[b,<<1>>]", "f 0 0; ret")
		h := p.place.heap(t)
		w, _ := h.Store(tm("[b,<<1>>]"))
		p.Bring(h, w)
		p.Bring(h, w)
		return p.Mail()
	}()
	scrawl(mail[:1:1])
	if got := written(mail[1]); got != "[b,<<1>>]" {
		t.Fatal(got)
	}
}

func TestRootsAreNobodyElses(t *testing.T) {
	p := begunWith(t, "{a,[b]}", "{c}", "f 1 1; move y0 x0; move x1 l0; peek x5 @3; wait @3")
	p.gets("{m}", false)
	p.Run(4)
	want := p.Roots()
	for range 2 {
		got := p.Roots()
		if !slices.Equal(got, want) {
			t.Fatalf("%v, not %v", got, want)
		}
		for i := range got[:cap(got)] {
			got[:cap(got)][i] = 66
		}
	}
	p.audit()
	p.is(false, false, "{m}")
}

// Roots are all words that a process holds: registers, slots of all frames, literals, messages.
func TestRoots(t *testing.T) {
	p := roomy().start(t, parsed(t, "{l} {k}", "f 2 2; move y1 x0; move x0 x5; move x3 l0; move x3 x5; call g; ret", "g 0 1; move y0 x1; move x1 x5; wait @2"), tms("{first}", "{second}")...)
	p.gets("{m}", false)
	p.gets("{n}", false)
	want := func(texts ...string) {
		t.Helper()
		var got []string
		for _, w := range p.Roots() {
			term, err := p.Heap().Load(w)
			if err != nil {
				t.Fatal(err)
			}
			if s := written(term); s[0] == '{' && !slices.Contains(got, s) {
				got = append(got, s)
			}
		}
		slices.Sort(got)
		if !slices.Equal(got, texts) {
			t.Fatalf("%v, not %v", got, texts)
		}
	}
	want("{first}", "{m}", "{n}", "{second}")
	p.says(7, "spent", 7)
	want("{first}", "{l}", "{m}", "{n}", "{second}")
	p.audit()
	if p.Heap().Used() != 5*4 {
		t.Fatalf("%d places are used", p.Heap().Used())
	}
}

// P18.4: what is given back by Collect, and how many blocks that is.
func TestCollect(t *testing.T) {
	p := roomy().start(t, parsed(t, "[l]", "f 2 1; move x0 x5; move y0 x1; move x1 x5; move x3 l0; move x3 x5; move y0 x5; wait @6"), tms("{1,{2}}", "[<<3>>,4]")...)
	p.gets("[m]", false)
	for _, given := range []int{2, 0, 0, 0, 0, 3} {
		if p.Collect() != 0 {
			t.Fatal("all is held")
		}
		p.says(1, "spent", 1)
		if got := p.Collect(); got != given {
			t.Fatalf("%d blocks, not %d", got, given)
		}
	}
	p.is(false, false, "[m]")
	if p.Heap().Used() != 8 || len(p.place.bins.Handles()) != 0 {
		t.Fatalf("%d places are used", p.Heap().Used())
	}
	p.Drop()
	if p.Collect() != 0 {
		t.Fatal("nothing is there")
	}
}

// Drop: all is given back, it has ended, nothing more is done, whatever it was at.
func TestDrop(t *testing.T) {
	code := "f 1 1; move y0 x0; move x1 l0; out l1; where x0 l2; call g; ret"
	g := "g 0 1; move y0 x1; after @2 l3; peek x5 @3; exit l0; ret"
	for steps := range 9 {
		p := roomy().start(t, parsed(t, "{l,<<1>>} <<2>> a 5", code, g), tm("{x,<<3>>}"))
		p.gets("[b,<<4>>]", false)
		for range steps {
			p.Run(1)
			if p.Waiting() {
				break
			}
		}
		for range 2 {
			p.Drop()
			if p.Heap().Used() != 0 || p.Heap().Top() != 0 || len(p.Heap().Held()) != 0 || len(p.place.bins.Handles()) != 0 || p.place.bins.Used() != 0 || len(p.Roots()) != 0 {
				t.Fatalf("behind %d steps something stayed", steps)
			}
			p.is(false, false, "")
			p.isOver()
		}
	}
	// one that waits by its clock
	p := begun(t, "5 a", "f 0 0; after @0 l0; ret")
	p.says(1, "waits 5", 1)
	p.Drop()
	p.is(false, false, "")
	p.isOver()
	// one whose end was still to be told
	p = begun(t, "5 a", "f 0 0; yield; ret")
	p.says(1, "yields", 1)
	p.Fail("reason")
	p.Drop()
	p.isOver()
	// one that is full
	p = narrow(4, 4).start(t, parsed(t, "{1,2,3}", "f 0 0; out l0; ret"))
	p.says(1, "full", 1)
	p.Drop()
	p.isOver()
}

// What has ended holds what it held till it is dropped.
func TestWhatHasEnded(t *testing.T) {
	p := begunWith(t, "{x}", "5 <<1>>", "f 1 0; after @2 l0; ret; move x1 l1; exit x1")
	p.says(9, "waits 5", 1)
	p.gets("{m}", true)
	p.says(9, "ends: <<1>>", 2)
	p.isOver()
	p.is(false, true, "{m}")
	if p.Collect() != 0 || p.Heap().Used() != 4+4+8 {
		t.Fatalf("%d places are used", p.Heap().Used())
	}
	p.audit()
}

// R4: two processes have nothing in common but the atoms and the binaries that they were given.
func TestTwoProcessesHaveNothingInCommon(t *testing.T) {
	l := roomy()
	m := parsed(t, "{l,<<1>>} 7", "f 1 1; move y0 l0; take; out y0; where x0 x0; after @6 l1; ret; out x0; exit l0")
	one, another := l.start(t, m, tm("a")), l.start(t, m, tm("b"))
	if one.Heap() == another.Heap() {
		t.Fatal("a heap")
	}
	for step := range 6 {
		one.gets("{m,"+itoa(step)+"}", one.Waiting())
		one.Run(1)
		if one.Waiting() {
			one.Timeout()
		}
	}
	one.Answer(tm("late"))
	one.Fail("late")
	one.Collect()
	another.is(false, false, "")
	another.says(9, "outs: {l,<<1>>}", 3)
	one.Drop()
	another.sentNothing()
	another.says(9, "asks: b", 1)
	another.answered("c")
	another.says(9, "waits 7", 1)
	another.is(true, true, "")
	another.gets("d", true)
	another.says(9, "outs: c", 1)
	another.says(9, "ends: {l,<<1>>}", 1)
	another.audit()
}

// sentNothing wants that nothing is sent.
func (p *tester) sentNothing() {
	p.t.Helper()
	if p.Sent() != 0 {
		p.t.Fatal("something is sent")
	}
}

// Nor have they, if they run at the same time with tables of their own.
func TestManyAtTheSameTime(t *testing.T) {
	m := parsed(t, "{l,<<1>>} 50 1 0", "f 0 1; move x0 l1; move x1 l2; cons y0 x0 y0; ifeq x0 l3 @5; exit y0; bif sub x0 x0; jump @2")
	want := ""
	var all sync.WaitGroup
	told := make([]string, 16)
	for i := range told {
		all.Add(1)
		go func() {
			defer all.Done()
			l := roomy()
			p, err := proc.New(5, m, 0, nil, l.conf, l.atoms, l.bins)
			if err != nil {
				return
			}
			for {
				stop, _ := p.Run(7)
				if stop.Kind == api.Ends {
					told[i] = said(stop)
					return
				}
			}
		}()
	}
	all.Wait()
	for n := 0; n <= 50; n++ {
		want += "," + itoa(n)
	}
	want = "ends: [" + want[1:] + "]"
	for _, got := range told {
		if got != want {
			t.Fatalf("%s, not %s", got, want)
		}
	}
}

// What is kept is no more than what is asked for later: a process that calls and returns, takes and gets for ever, does not grow.
func TestNothingGrows(t *testing.T) {
	p := begun(t, "a", "f 0 0; try @4; call g; end; jump @5; jump @5; peek x0 @8; take; jump @5; wait @0", "g 0 8; next @1; take; raise l0")
	round := func() {
		for range 50 {
			p.Deliver(tm("{m}"))
			p.Run(100)
		}
		p.Collect()
	}
	memory := func() uint64 {
		var s runtime.MemStats
		runtime.GC()
		runtime.GC()
		runtime.ReadMemStats(&s)
		return s.HeapAlloc
	}
	round()
	before := memory()
	for range 400 {
		round()
	}
	if after := memory(); after > before+1<<16 {
		t.Fatalf("%d bytes, then %d", before, after)
	}
	runtime.KeepAlive(p)
}

// The table of atoms may have names already, and get others in the meantime.
func TestAtomsAreShared(t *testing.T) {
	l := roomy()
	l.atoms.Number("badarg")
	p := l.start(t, parsed(t, "b", "f 1 0; try @3; head x1 x0; exit x0; out x0; out l0; out x2; ret"), tm("a"))
	l.atoms.Number("other")
	p.run("outs: badarg /3", "outs: b /1", "outs: [] /1", "ends: normal /1")
	for n, want := range []string{"badarg", "a", "other", "b"} {
		if got, _ := l.atoms.Name(n); got != want {
			t.Fatalf("%d is %s", n, got)
		}
	}
	if l.atoms.Len() != 4 {
		t.Fatalf("%d atoms", l.atoms.Len())
	}
	q := (&place{conf: l.conf, atoms: word.NewAtoms(), bins: l.bins}).start(t, parsed(t, "b", "f 0 0; exit l0"))
	q.says(1, "ends: b", 1)
	if q.place.atoms.Len() != 1 {
		t.Fatal("the other table")
	}
}
