package proc_test

import (
	"slices"
	"testing"

	"troupe/api"
	"troupe/binary"
	"troupe/tree"
)

// P18.2, P18.4

func TestPeek(t *testing.T) {
	p := begunWith(t, "a", "none", "f 1 1; peek y0 @3; out y0; jump @0; out l0; out y0; jump @0")
	p.says(9, "outs: none", 2)
	p.says(9, "outs: []", 1)
	p.gets("{first}", false)
	p.gets("second", false)
	p.says(9, "outs: {first}", 3)
	p.says(9, "outs: {first}", 3) // it is there still
	p.is(false, false, "{first} second")
}

// begunWith is like begun, with arguments.
func begunWith(t *testing.T, args, lits string, funcs ...string) *tester {
	t.Helper()
	var terms []api.Term
	if args != "" {
		terms = tms(args)
	}
	return roomy().start(t, parsed(t, lits, funcs...), terms...)
}

func TestTake(t *testing.T) {
	p := begun(t, "none", "f 0 0; next @1; peek x0 @5; take; out x0; jump @0; out l0; jump @6")
	for _, s := range []string{"a", "b", "c"} {
		p.gets(s, false)
	}
	p.says(9, "outs: b", 4)
	p.is(false, false, "a c")
	p.says(9, "outs: c", 5) // the place was the first again
	p.is(false, false, "a")
	p.says(9, "outs: none", 4)
	p.is(false, false, "a")
}

// Without a message at the place none is removed, but the place is the first again.
func TestTakeOfNone(t *testing.T) {
	p := begun(t, "none", "f 0 0; take; next @2; take; exit l0")
	p.says(9, "ends: none", 4)
	p.is(false, false, "")
	p = begun(t, "none", "f 0 0; next @1; take; peek x0 @4; out x0; exit l0")
	p.gets("a", false)
	p.says(9, "outs: a", 4)
	p.is(false, false, "a")
	p.says(9, "ends: none", 1)
	p.is(false, false, "a")
}

func TestNext(t *testing.T) {
	p := begun(t, "none end", "f 0 0; peek x0 @3; out x0; next @0; out l0; next @5; next @6; peek x0 @9; out x0; jump @6; exit l1")
	p.says(9, "outs: none", 2)
	p.says(9, "ends: end", 4)
	p = begun(t, "none end", "f 0 0; peek x0 @3; out x0; next @0; out l0; next @5; next @6; peek x0 @9; out x0; jump @6; exit l1")
	p.gets("a", false)
	p.gets("b", false)
	p.says(9, "outs: a", 2)
	p.says(9, "outs: b", 3)
	p.says(9, "outs: none", 3)
	p.is(false, false, "a b")
	p.gets("c", false) // the place, beyond the last one, was not gone further than that
	p.says(9, "ends: end", 4)
	p.is(false, false, "a b c")
	p = begun(t, "none end", "f 0 0; next @1; next @2; next @3; out l0; peek x0 @6; exit x0; exit l1")
	p.gets("a", false)
	p.says(9, "outs: none", 4)
	p.gets("b", false)
	p.says(9, "ends: b", 2)
}

func TestWaitWithAMessageAtThePlace(t *testing.T) {
	p := begun(t, "on", "f 0 0; wait @2; ret; out l0; ret")
	p.gets("a", false)
	p.run("outs: on /2", "ends: normal /1")
	p.is(false, false, "a")
}

func TestWaitWithoutOne(t *testing.T) {
	p := begun(t, "on", "f 0 0; wait @2; ret; out l0; wait @4; next @2; ret")
	p.says(9, "waits -1", 1)
	for _, budget := range []int{9, 1, 0, -1} {
		p.says(budget, "waits -1", 0)
	}
	p.is(true, false, "")
	if p.Timeout() {
		t.Fatal("it has no clock")
	}
	p.is(true, false, "")
	p.gets("a", true)
	p.is(false, false, "a")
	p.gets("b", false)
	p.says(0, "spent", 0)
	p.says(9, "outs: on", 1)
	p.says(9, "outs: on", 3)
	p.says(9, "outs: on", 3)
	p.says(9, "waits -1", 1) // the place is behind both
	p.is(true, false, "a b")
	p.gets("c", true)
	p.says(9, "outs: on", 2)
}

// OpAfter: what B may be.
func TestAfterOfWhat(t *testing.T) {
	for _, s := range append(samples(), "1073741823", "undefined", "infinit", "infinitys") {
		lits := s + " late came"
		t1 := tm(s)
		ticks := t1.Kind == api.Int && t1.N >= 0 && t1.N <= 1<<30
		for _, mail := range []bool{false, true} {
			for _, fromRegister := range []bool{false, true} {
				p := begun(t, lits, "f 0 0; after @2 l0; exit l1; exit l2")
				if fromRegister {
					p = begunWith(t, s, lits, "f 1 0; after @2 x0; exit l1; exit l2")
				}
				if mail {
					p.gets("a", false)
				}
				switch {
				case !ticks && s != "infinity":
					p.says(9, "ends: badarg", 1)
					p.isOver()
				case mail:
					p.says(9, "ends: came", 2)
				case s == "infinity":
					p.says(9, "waits -1", 1)
					p.says(9, "waits -1", 0)
					p.is(true, false, "")
					if p.Timeout() {
						t.Fatal("it waits for ever")
					}
					p.gets("a", true)
					p.is(false, false, "a")
					p.says(9, "ends: came", 1)
				case t1.N == 0:
					p.says(9, "ends: late", 2)
					p.is(false, false, "")
				default:
					p.says(9, "waits "+s, 1)
					p.says(9, "waits -2", 0)
					p.says(0, "waits -2", 0)
					p.is(true, true, "")
					if !p.Timeout() || p.Timeout() {
						t.Fatal("the time is up, once")
					}
					p.is(false, false, "")
					p.says(9, "ends: late", 1)
				}
			}
		}
	}
}

// A B that may not be is told ahead of all else, also while the clock runs.
func TestAfterIsWrongWhileTheClockRuns(t *testing.T) {
	p := begun(t, "5 x", "f 0 0; try @4; after @2 l0; after @2 l1; exit l1; out x0; ret")
	p.says(9, "waits 5", 2)
	p.gets("a", true)
	p.says(9, "outs: badarg", 2)
	p.is(false, true, "a")
}

func TestAfterOfNoTicks(t *testing.T) {
	// the place is the first again
	p := begun(t, "0 none", "f 0 0; next @1; next @2; after @5 l0; peek x0 @6; out x0; exit l1; exit l1")
	p.gets("a", false)
	p.gets("b", false)
	p.says(9, "outs: a", 5)
	p.is(false, false, "a b")
	// while the clock runs it waits, and the clock goes on
	p = begun(t, "7 0 late", "f 0 0; after @2 l0; exit l2; next @3; after @5 l1; out l2; peek x0 @6; exit x0")
	p.says(9, "waits 7", 1)
	p.gets("a", true)
	p.is(false, true, "a")
	p.says(9, "waits -2", 2)
	p.is(true, true, "a")
	if !p.Timeout() {
		t.Fatal("the time is up")
	}
	p.is(false, false, "a")
	p.says(9, "outs: late", 1)
	p.says(9, "ends: a", 2) // the place was the first again
}

// A wait that is woken by a message and waits again goes on with the same clock, whatever its B says.
func TestAWaitThatGoesOn(t *testing.T) {
	p := begun(t, "9 3 infinity late", "f 0 0; after @2 l0; exit l3; next @3; after @5 l1; exit l3; next @6; after @8 l2; exit l3; next @9; wait @10; next @11; after @11 l0; exit l3")
	p.says(9, "waits 9", 1)
	p.is(true, true, "")
	p.gets("a", true)
	p.says(9, "waits -2", 2)
	p.gets("b", true)
	p.says(9, "waits -1", 2) // infinity: the clock goes on, but it waits without it
	p.is(true, true, "a b")
	if p.Timeout() {
		t.Fatal("it waits for ever")
	}
	p.is(true, true, "a b")
	p.gets("c", true)
	p.says(9, "waits -1", 2)
	p.is(true, true, "a b c")
	if p.Timeout() {
		t.Fatal("it waits for ever")
	}
	p.gets("d", true)
	p.says(9, "waits -2", 2)
	p.is(true, true, "a b c d")
	if !p.Timeout() {
		t.Fatal("the time is up")
	}
	p.is(false, false, "a b c d")
	p.says(9, "ends: late", 1)
}

// A message that is taken makes the clock stand; so does a take that takes none. The next wait begins anew.
func TestTakeMakesTheClockStand(t *testing.T) {
	p := begun(t, "9 4 late", "f 0 0; after @2 l0; exit l2; take; after @5 l1; exit l2; next @6; take; after @0 l1; exit l2")
	p.says(9, "waits 9", 1)
	p.gets("a", true)
	p.is(false, true, "a")
	p.says(1, "spent", 1)
	p.is(false, false, "")
	if p.Timeout() {
		t.Fatal("it does not wait")
	}
	p.says(9, "waits 4", 1)
	p.is(true, true, "")
	p.gets("b", true)
	p.says(1, "spent", 1)
	p.is(false, true, "b")
	p.says(1, "spent", 1) // no message is at the place
	p.is(false, false, "b")
	p.says(9, "waits 4", 4)
	p.is(true, true, "")
}

func TestTimeoutOfOneThatDoesNotWait(t *testing.T) {
	p := begun(t, "9 late", "f 0 0; after @2 l0; exit l1; next @3; out l1; ret")
	for range 2 {
		if p.Timeout() {
			t.Fatal("it does not wait")
		}
	}
	p.says(1, "waits 9", 1)
	p.gets("a", true)
	if p.Timeout() {
		t.Fatal("it does not wait any more")
	}
	p.is(false, true, "a")
	p.says(9, "outs: late", 2)
	if p.Timeout() {
		t.Fatal("it does not wait")
	}
	p.is(false, true, "a")
	p.says(9, "ends: normal", 1)
	p.isOver()
}

// P18.4

func TestDeliver(t *testing.T) {
	p := begun(t, "", "f 0 0; peek x0 @4; take; out x0; jump @0; wait @0")
	p.gets("first", false)
	p.says(9, "outs: first", 3)
	for _, s := range samples() {
		p.gets(s, false)
		p.says(9, "outs: "+s, 4)
	}
	p.says(9, "waits -1", 3)
	for _, s := range samples() {
		p.gets(s, true)
		p.gets("behind", false)
		p.is(false, false, s+" behind")
		p.says(9, "outs: "+s, 3)
		p.says(9, "outs: behind", 4)
		p.says(9, "waits -1", 3)
	}
}

func TestMailIsInOrder(t *testing.T) {
	p := begun(t, "", "f 0 0; wait @0")
	var want []string
	for n := range 300 {
		p.gets("{"+itoa(n)+",<<"+itoa(n%256)+">>}", false)
		want = append(want, "{"+itoa(n)+",<<"+itoa(n%256)+">>}")
	}
	var got []string
	for _, t := range p.Mail() {
		got = append(got, written(t))
	}
	if !slices.Equal(got, want) {
		t.Fatalf("%v", got)
	}
	p.audit()
	if n := len(p.place.bins.Handles()); n != 300 {
		t.Fatalf("%d binaries", n)
	}
}

func TestDeliverOfATermThatMayNotBe(t *testing.T) {
	p := begun(t, "", "f 0 0; wait @0")
	refuses := func(term api.Term, kind api.Errno, n int) {
		t.Helper()
		woken, err := p.Deliver(term)
		if woken {
			t.Fatal("woken")
		}
		chain(t, err, kind, "deliver", 0, "term", n)
	}
	for range 2 {
		refuses(api.Term{}, api.ErrArg, 0)
		refuses(api.Term{Kind: api.Pid, N: -1}, api.ErrArg, 0)
		refuses(api.Term{Kind: api.Tuple, Items: []api.Term{tm("new"), {}}}, api.ErrArg, 2)
		refuses(deep(api.MaxDepth+1), api.ErrFull, api.MaxDepth)
		refuses(wide(api.MaxTerms+1), api.ErrFull, 0)
		p.is(p.Waiting(), false, "")
		p.Run(9) // it waits from then on
		p.says(9, "waits -1", 0)
	}
	if p.Heap().Used() != 0 || p.place.atoms.Len() != 0 {
		t.Fatal("something stayed")
	}
	p.gets(written(deep(api.MaxDepth)), true)
	exit := begun(t, "", "f 0 0; ret")
	exit.says(1, "ends: normal", 1)
	p = exit
	refuses(api.Term{}, api.ErrArg, 0) // also of one that has ended
}

func TestDeliverWithoutRoom(t *testing.T) {
	l := narrow(16, 16)
	p := l.start(t, parsed(t, "", "f 0 0; wait @0"))
	p.gets("{1,2}", false)
	p.gets("{3,4}", false)
	p.says(1, "spent", 1)
	for range 3 {
		woken, err := p.Deliver(tm("[new,{1},2]"))
		if woken {
			t.Fatal("woken")
		}
		chain(t, err, api.ErrFull, "deliver", 0)
		p.is(false, false, "{1,2} {3,4}")
	}
	if p.Heap().Used() != 8 || l.atoms.Len() != 0 {
		t.Fatalf("%d places are used", p.Heap().Used())
	}
	p.gets("{5,6}", false)
	p.gets("a", false)
	p.is(false, false, "{1,2} {3,4} {5,6} a")
	p.audit()
	// it is not full by that
	p.says(9, "spent", 9)
	// and one that waits is not woken
	q := narrow(4, 4).start(t, parsed(t, "", "f 0 0; wait @0"))
	q.says(9, "waits -1", 1)
	woken, err := q.Deliver(tm("[1,2]"))
	if woken || !q.Waiting() {
		t.Fatal("woken")
	}
	chain(t, err, api.ErrFull, "deliver", 0)
	q.says(9, "waits -1", 0)
	q.gets("[1]", true)
	q.is(false, false, "[1]")
}

// What has no room may have it behind a collection.
func TestDeliverBehindACollection(t *testing.T) {
	l := narrow(16, 16)
	p := l.start(t, parsed(t, "", "f 2 0; move x1 x0; tuple x2 x0 2; wait @2"), tms("{1}", "[2]")...)
	p.says(9, "waits -1", 3)
	if p.Heap().Used() != 12 {
		t.Fatalf("%d places are used", p.Heap().Used())
	}
	p.gets("[a,b]", true)
	p.is(false, false, "[a,b]")
	p.audit()
	if p.Heap().Used() != 16 {
		t.Fatalf("%d places are used", p.Heap().Used())
	}
	for _, s := range []string{"[1]", "{}"} {
		_, err := p.Deliver(tm(s))
		chain(t, err, api.ErrFull, "deliver", 0)
	}
}

// So may a binary.
func TestDeliverOfABinaryWithoutRoom(t *testing.T) {
	l := few(2, 10)
	p := l.start(t, parsed(t, "", "f 1 0; move x0 x1; wait @1"), tm("<<1,2,3,4>>"))
	p.says(9, "waits -1", 2)
	p.gets("<<5,6,7,8,9>>", true)
	_, err := p.Deliver(tm("{<<1,2,3,4,5,6>>}"))
	chain(t, err, api.ErrFull, "deliver", 0)
	p.is(false, false, "<<5,6,7,8,9>>")
	p.gets("{<<1,2,3,4,5>>}", false)
	if p.place.bins.Used() != 10 {
		t.Fatalf("%d bytes", p.place.bins.Used())
	}
	_, err = p.Deliver(tm("<<>>"))
	chain(t, err, api.ErrFull, "deliver", 0)
	// an atom too
	l.fillAtoms()
	_, err = p.Deliver(tm("new"))
	chain(t, err, api.ErrFull, "deliver", 0)
	p.gets("filled3", false)
}

func TestDeliverToOneThatHasEnded(t *testing.T) {
	for _, code := range []string{"ret", "exit l0", "raise l0", "head x1 l0"} {
		p := begun(t, "a", "f 0 0; "+code+"; ret")
		p.gets("early", false)
		p.Run(1)
		p.isOver()
		p.is(false, false, "early")
	}
}

// Bring: as Deliver, but that binaries are shared.
func TestBring(t *testing.T) {
	p := begun(t, "", "f 0 0; peek x0 @4; take; out x0; jump @0; wait @0")
	h := p.place.heap(t)
	for _, s := range samples() {
		w, err := h.Store(tm(s))
		if err != nil {
			t.Fatal(err)
		}
		for n := range 2 {
			woken, err := p.Bring(h, w)
			if err != nil || woken && n == 1 {
				t.Fatalf("%s: %t, %v", s, woken, err)
			}
		}
		p.is(false, false, s+" "+s)
		p.says(9, "outs: "+s, 3)
		p.says(9, "outs: "+s, 4)
		p.says(9, "waits -1", 3)
		if woken, err := p.Bring(h, w); !woken || err != nil {
			t.Fatalf("%s: %v", s, err)
		}
		p.says(9, "outs: "+s, 3)
		p.says(9, "waits -1", 3)
		if got, err := h.Load(w); err != nil || written(got) != s {
			t.Fatalf("%s is turned", s)
		}
	}
	if len(h.Held()) != 0 {
		t.Fatalf("%v is held", h.Held())
	}
}

func TestBringSharesBinaries(t *testing.T) {
	p := begun(t, "", "f 0 0; wait @0")
	h := p.place.heap(t)
	w, _ := h.Store(tm("{<<1,2,3>>,[<<>>|a]}"))
	if _, err := p.Bring(h, w); err != nil {
		t.Fatal(err)
	}
	bins := p.place.bins
	count := func(want int) {
		t.Helper()
		for _, handle := range bins.Handles() {
			if n, _ := bins.Count(handle); n != want {
				t.Fatalf("%d is held %d times, not %d", handle, n, want)
			}
		}
		if !slices.Equal(bins.Handles(), []int{0, 1}) && want > 0 {
			t.Fatalf("%v", bins.Handles())
		}
	}
	count(2)
	h.Drop()
	count(1)
	p.is(false, false, "{<<1,2,3>>,[<<>>|a]}")
	p.Drop()
	if len(bins.Handles()) != 0 {
		t.Fatal("they are held still")
	}
}

func TestBringWithoutRoom(t *testing.T) {
	p := narrow(16, 16).start(t, parsed(t, "", "f 1 0; wait @0"), tm("{1,{2}}"))
	h := p.place.heap(t)
	w, _ := h.Store(tm("{[a],<<1>>}"))
	p.says(9, "waits -1", 1)
	for range 2 {
		woken, err := p.Bring(h, w)
		chain(t, err, api.ErrFull, "deliver", 0)
		if woken || len(h.Held()) != 0 || p.Heap().Used() != 8 {
			t.Fatal("something is turned")
		}
		p.is(true, false, "")
		p.says(9, "waits -1", 0)
	}
	if n, _ := p.place.bins.Count(0); n != 1 {
		t.Fatalf("held %d times", n)
	}
	w, _ = h.Store(tm("[a,b]"))
	if woken, err := p.Bring(h, w); !woken || err != nil {
		t.Fatal(err)
	}
	p.audit()
}

func TestBringBehindACollection(t *testing.T) {
	p := narrow(16, 16).start(t, parsed(t, "", "f 2 0; move x0 x2; wait @1"), tms("{1,{2}}", "[a]")...)
	h := p.place.heap(t)
	w, _ := h.Store(tm("{1,[<<>>]}"))
	p.says(9, "waits -1", 2)
	_, err := p.Bring(h, w)
	chain(t, err, api.ErrFull, "deliver", 0)
	if p.Heap().Used() != 4 {
		t.Fatal("not collected")
	}
	p = narrow(16, 16).start(t, parsed(t, "", "f 2 0; move x0 x2; wait @1"), tms("{1,{2}}", "[a]")...)
	h = p.place.heap(t)
	w, _ = h.Store(tm("{1,[2,b]}"))
	p.says(9, "waits -1", 2)
	if woken, err := p.Bring(h, w); !woken || err != nil {
		t.Fatal(err)
	}
	p.is(false, false, "{1,[2,b]}")
	p.audit()
}

func TestBringToOneThatHasEnded(t *testing.T) {
	p := begun(t, "", "f 0 0; ret")
	h := p.place.heap(t)
	w, _ := h.Store(tm("<<1>>"))
	p.says(1, "ends: normal", 1)
	woken, err := p.Bring(h, w)
	chain(t, err, api.ErrNone, "deliver", 0)
	if n, _ := p.place.bins.Count(0); woken || n != 1 {
		t.Fatalf("held %d times", n)
	}
	p.Drop()
	_, err = p.Bring(h, w)
	chain(t, err, api.ErrNone, "deliver", 0)
}

// What is no term there is none, and one that may not be told is too great.
func TestBringOfWhatIsNoTerm(t *testing.T) {
	p := begun(t, "", "f 0 0; wait @0")
	h := p.place.heap(t)
	p.says(9, "waits -1", 1)
	for _, w := range []uint64{5, 8*9999 + 5, 1<<63 | 5, 6, 7, 207, 1<<40 | 1, 12, 1<<63 | 2} {
		woken, err := p.Bring(h, w)
		if woken {
			t.Fatal("woken")
		}
		chain(t, err, api.ErrNone, "deliver", 0)
	}
	w := uint64(4)
	for range api.MaxDepth { // and nil within
		b, _ := h.Alloc(2)
		h.Set(b, 0, 1<<6|1<<3|7)
		h.Set(b, 1, w)
		w = uint64(b)<<3 | 5
	}
	_, err := p.Bring(h, w)
	chain(t, err, api.ErrFull, "deliver", 0)
	p.is(true, false, "")
	inner, _ := h.Get(int(w>>3), 1)
	if woken, err := p.Bring(h, inner); !woken || err != nil {
		t.Fatal(err)
	}
	if got := p.Mail(); len(got) != 1 || tree.Right(got[0]) != nil {
		t.Fatal("the mail")
	}
}

// From its own heap: what is brought outlives a collection.
func TestBringFromItsOwnHeap(t *testing.T) {
	p := narrow(16, 16).start(t, parsed(t, "", "f 1 0; wait @0"), tm("{1,2}"))
	w, _ := p.Heap().Store(tm("[a,b]"))
	p.says(9, "waits -1", 1)
	_, err := p.Bring(p.Heap(), w)
	chain(t, err, api.ErrFull, "deliver", 0)
	if got, err := p.Heap().Load(w); err != nil || written(got) != "[a,b]" {
		t.Fatalf("collected: %v", err)
	}
	if p.Collect() != 2 {
		t.Fatal("it is held still")
	}
	w, _ = p.Heap().Store(tm("{c}"))
	if woken, err := p.Bring(p.Heap(), w); !woken || err != nil || len(p.Heap().Held()) != 0 {
		t.Fatal(err)
	}
	p.is(false, false, "{c}")
}

// The binaries of a place with no room for bytes.
func TestBringWantsNoBytes(t *testing.T) {
	l := roomy()
	l.bins, _ = binary.New(1, 3)
	p := l.start(t, parsed(t, "", "f 0 0; wait @0"))
	h := l.heap(t)
	w, _ := h.Store(tm("<<1,2,3>>"))
	for range 5 {
		if _, err := p.Bring(h, w); err != nil {
			t.Fatal(err)
		}
	}
	if n, _ := l.bins.Count(0); n != 6 {
		t.Fatalf("held %d times", n)
	}
	_, err := p.Deliver(tm("<<>>"))
	chain(t, err, api.ErrFull, "deliver", 0)
}
