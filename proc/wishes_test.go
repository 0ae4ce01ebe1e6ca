package proc_test

import (
	"slices"
	"strconv"
	"strings"
	"testing"

	"troupe/api"
)

// P18.2, P18.3

// wish is an instruction by which a process stops for what it cannot do alone: what x0 is, and x1 behind it.
type wish struct {
	line    string
	takes   []int  // the kinds that x0 may be of; none: it takes any
	says    string // of x0, written as X
	answers bool   // it wants an answer, in x3
	sends   bool
}

// wishes are all of them.
func wishes() []wish {
	address, pid, ref, atom := []int{api.Pid, api.Atom}, []int{api.Pid}, []int{api.Ref}, []int{api.Atom}
	return []wish{
		{"spawn x3 g x0", nil, "spawns 1: X [b]", true, false},
		{"send x0 x1", address, "sends: X [b]", false, true},
		{"link x0", pid, "links: X", false, false},
		{"unlink x0", pid, "unlinks: X", false, false},
		{"monitor x3 x0", pid, "monitors: X", true, false},
		{"demon x0", ref, "demons: X", false, false},
		{"kill x0 x1", pid, "kills: X [b]", false, false},
		{"reg x0", atom, "registers: X", false, false},
		{"where x3 x0", atom, "asks: X", true, false},
		{"unreg x0", atom, "unregs: X", false, false},
		{"timer x3 x2", address, "starts 7: X [b]", true, true},
		{"cancel x3 x0", ref, "cancels: X", true, false},
		{"out x0", nil, "outs: X", false, false},
		{"yield", nil, "yields", false, false},
	}
}

// kinds of stops by their names.
func kindNamed(name string) int { return slices.Index(names, name) }

// wisher is a process that stops for a wish at its third reduction, has a try around it, and puts out x0 and x3 behind it.
func wisher(t *testing.T, x wish, s string) *tester {
	t.Helper()
	line := x.line
	args := tms(s, "[b]", "c", "d")
	if strings.HasPrefix(line, "timer") { // its registers are x4 to x6
		line = "timer x3 x4"
		args = append(tms("c", "[b]", "c", "d"), tms("7", s, "[b]")...)
	}
	p := roomy().start(t, parsed(t, "caught", "f "+itoa(len(args))+" 0; move x7 x7; try @6; "+line+"; out x0; out x3; exit l0; out l0; out x0; out x3; exit l0", "g 2 0; ret"), args...)
	p.says(2, "spent", 2)
	return p
}

// What each says, of each kind of term that it takes; what it goes wrong with, of each other.
func TestWishes(t *testing.T) {
	for _, x := range wishes() {
		for _, s := range samples() {
			p := wisher(t, x, s)
			first := s
			if strings.HasPrefix(x.line, "timer") {
				first = "c"
			}
			if len(x.takes) > 0 && !slices.Contains(x.takes, kindOf(s)) {
				p.says(9, "outs: caught", 2) // the reduction that went wrong counts
				if p.Sent() != 0 {
					t.Fatal("sent")
				}
				p.run("outs: badarg /1", "outs: d /1", "ends: caught /1")
				continue
			}
			stop := p.says(9, strings.ReplaceAll(x.says, "X", s), 1)
			if stop.Kind != kindNamed(strings.Trim(strings.Fields(x.says)[0], ":")) {
				t.Fatalf("%v", stop)
			}
			if x.sends {
				p.sent("[b]")
			} else if p.Sent() != 0 {
				t.Fatalf("%s sends", x.line)
			}
			p.is(false, false, "")
			err := p.Answer(tm("{answer,<<1>>}"))
			x3 := "{answer,<<1>>}"
			if !x.answers {
				chain(t, err, api.ErrNone, "answer", 0)
				x3 = "d"
			} else if err != nil {
				t.Fatal(err)
			}
			p.run("outs: "+first+" /1", "outs: "+x3+" /1", "ends: caught /1")
		}
	}
}

// OpTrap takes true and false, OpPrio 0 to 2; each says so by N.
func TestTrapAndPrio(t *testing.T) {
	for _, s := range append(samples(), "tru", "truee", "false0") {
		trap, prio := "ends: badarg", "ends: badarg"
		switch s {
		case "true":
			trap = "traps 1"
		case "false":
			trap = "traps"
		case "0":
			prio = "prios"
		case "1", "2":
			prio = "prios " + s
		}
		for _, x := range []struct{ line, want string }{{"trap x0", trap}, {"prio x0", prio}, {"trap l0", trap}, {"prio l0", prio}} {
			p := begunWith(t, s, s, "f 1 0; "+x.line+"; ret")
			stop := p.says(9, x.want, 1)
			if len(stop.Terms) > 0 && stop.Kind != api.Ends {
				t.Fatalf("%v", stop)
			}
			if stop.Kind != api.Ends {
				chain(t, p.Answer(tm("a")), api.ErrNone, "answer", 0)
				p.says(9, "ends: normal", 1)
			}
			p.isOver()
		}
	}
}

// OpTimer: ticks from 0 to 2^30, a Pid or an Atom, any term.
func TestTimer(t *testing.T) {
	for _, s := range samples() {
		n, err := strconv.ParseInt(s, 10, 64)
		ok := err == nil && n >= 0 && n <= 1<<30
		for _, to := range []string{"#p4", "name", "#r4", "{}"} {
			p := roomy().start(t, parsed(t, "", "f 3 0; timer x0 x0; out x0; ret"), tms(s, to, "{what,<<2>>}")...)
			if !ok || to[:2] == "#r" || to == "{}" {
				p.says(9, "ends: badarg", 1)
				continue
			}
			want := "starts"
			if n != 0 {
				want += " " + s
			}
			p.says(9, want+": "+to+" {what,<<2>>}", 1)
			p.sent("{what,<<2>>}")
			p.answered("#r6")
			p.says(9, "outs: #r6", 1)
			if p.Sent() != 0 {
				t.Fatal("sent")
			}
		}
	}
	for _, s := range samples() {
		p := roomy().start(t, parsed(t, "", "f 3 0; timer x0 x0; ret"), tms("1", "#p1", s)...)
		p.says(9, "starts 1: #p1 "+s, 1)
		p.sent(s)
	}
	p := begunWith(t, "5", "", "f 1 0; timer x0 x13; ret") // registers 13 to 15 are nil
	p.says(9, "ends: badarg", 1)
}

// OpSpawn: which function, with which registers.
func TestSpawn(t *testing.T) {
	m := parsed(t, "", "f 3 1; spawn x0 g0 x15; spawn x0 g0 x0; spawn x0 g3 x1; spawn y0 f x0; ret", "g0 0 0; ret", "g3 3 0; ret", "g8 8 0; ret")
	p := roomy().start(t, m, tms("a", "[b]", "{c}")...)
	p.says(9, "spawns 1", 1)
	p.answered("#p9")
	p.says(9, "spawns 1", 1)
	p.answered("#p10")
	p.says(9, "spawns 2: [b] {c} []", 1)
	p.answered("#p11")
	p.says(9, "spawns: #p11 [b] {c}", 1)
	p.answered("#p12")
	p.says(9, "ends: normal", 1)
	p = roomy().start(t, parsed(t, "", "f 3 0; spawn x0 g8 x8; spawn x0 g8 x0; ret", "g8 8 0; ret"), tms("a", "[b]", "{c}")...)
	p.says(9, "spawns 1: [] [] [] [] [] [] [] []", 1)
	p.says(9, "spawns 1: [] [b] {c} [] [] [] [] []", 1)
}

func TestSendOfLiteralsAndSlots(t *testing.T) {
	p := begun(t, "#p1 {a,<<1>>}", "f 0 2; send l0 l1; move y0 l1; move y1 l0; send y1 y0; kill l0 y0; kill y1 l1; send l0 x5; ret")
	p.says(9, "sends: #p1 {a,<<1>>}", 1)
	p.sent("{a,<<1>>}")
	p.says(9, "sends: #p1 {a,<<1>>}", 3)
	p.sent("{a,<<1>>}")
	p.says(9, "kills: #p1 {a,<<1>>}", 1)
	if p.Sent() != 0 {
		t.Fatal("sent")
	}
	p.says(9, "kills: #p1 {a,<<1>>}", 1)
	p.says(9, "sends: #p1 []", 1)
	if p.Sent() != 4 {
		t.Fatal("nil is sent")
	}
	p.says(9, "ends: normal", 1)
	if p.Sent() != 0 {
		t.Fatal("sent")
	}
}

// What is sent lives on till the process runs on.
func TestSentIsNotCollected(t *testing.T) {
	p := begun(t, "#p1", "f 0 0; tuple x1 x1 3; send l0 x1; move x1 x2; ret")
	p.says(9, "sends: #p1 {[],[],[]}", 2)
	for range 3 {
		p.Collect()
		p.gets("a", false)
		p.sent("{[],[],[]}")
	}
	p.says(0, "spent", 0)
	if p.Sent() != 0 {
		t.Fatal("sent")
	}
	p.says(9, "ends: normal", 2)
}

// P18.3

// Answers of all kinds, in registers and slots.
func TestAnswer(t *testing.T) {
	for _, s := range samples() {
		p := begun(t, "a", "f 0 2; where x0 l0; out x0; where x15 l0; out x15; where y1 l0; out y1; out y0; ret")
		p.says(9, "asks: a", 1)
		p.answered(s)
		p.says(9, "outs: "+s, 1)
		p.says(9, "asks: a", 1)
		p.answered(s)
		p.says(9, "outs: "+s, 1)
		p.says(9, "asks: a", 1)
		p.answered(s)
		p.run("outs: "+s+" /1", "outs: [] /1", "ends: normal /1")
		p.audit()
	}
}

// It is answered once.
func TestAnswerTwice(t *testing.T) {
	p := begun(t, "a", "f 0 0; where x0 l0; out x0; ret")
	chain(t, p.Answer(tm("early")), api.ErrNone, "answer", 0)
	p.says(9, "asks: a", 1)
	p.answered("b")
	for range 2 {
		chain(t, p.Answer(tm("{c}")), api.ErrNone, "answer", 0)
	}
	p.Fail("d") // it goes on behind, and has not stopped there any more
	p.says(9, "outs: b", 1)
	chain(t, p.Answer(tm("e")), api.ErrNone, "answer", 0)
	p.says(9, "ends: normal", 1)
	p.isOver()
	if p.Heap().Used() != 0 {
		t.Fatal("something was laid")
	}
}

// Behind a stop that wants none, and where it has not stopped for anything, no answer is wanted.
func TestAnswerThatIsNotWanted(t *testing.T) {
	p := begun(t, "2", "f 0 0; wait @1; move x0 x0; after @3 l0; ret")
	none := func() {
		t.Helper()
		chain(t, p.Answer(tm("a")), api.ErrNone, "answer", 0)
		p.Fail("b")
	}
	none()
	p.says(0, "spent", 0)
	none()
	p.says(9, "waits -1", 1)
	none()
	p.gets("m", true)
	none()
	p.says(1, "spent", 1)
	none()
	p.says(9, "ends: normal", 2)
	none()
	p.says(9, "ends", 0)
	none()
	p.says(9, "ends", 0)
	p = begun(t, "2", "f 0 0; after @1 l0; ret")
	p.says(9, "waits 2", 1)
	none()
	if !p.Timeout() {
		t.Fatal("the time is up")
	}
	none()
	p.says(9, "ends: normal", 1)
}

// A Run without the answer that is wanted: nil is the answer.
func TestRunWithoutTheAnswer(t *testing.T) {
	for _, budget := range []int{9, 1, 0, -7} {
		for _, place := range []string{"x4", "y0"} {
			p := begun(t, "a {b}", "f 0 1; move "+place+" l1; where "+place+" l0; out "+place+"; ret")
			p.says(9, "asks: a", 2)
			if budget < 1 {
				p.says(budget, "spent", 0)
				chain(t, p.Answer(tm("late")), api.ErrNone, "answer", 0)
				p.Fail("late")
				p.says(9, "outs: []", 1)
			} else {
				p.says(budget, "outs: []", 1)
			}
			p.says(9, "ends: normal", 1)
		}
	}
}

func TestAnswerThatMayNotBe(t *testing.T) {
	for _, wanted := range []bool{true, false} {
		p := begun(t, "a", "f 0 0; where x0 l0; out x0; ret")
		if wanted {
			p.says(9, "asks: a", 1)
		}
		for range 2 {
			chain(t, p.Answer(api.Term{}), api.ErrArg, "answer", 0, "term", 0)
			chain(t, p.Answer(api.Term{Kind: api.Tuple, Items: []api.Term{tm("new"), {Kind: 9}}}), api.ErrArg, "answer", 0, "term", 2)
			chain(t, p.Answer(deep(api.MaxDepth+1)), api.ErrFull, "answer", 0, "term", api.MaxDepth)
			chain(t, p.Answer(wide(api.MaxTerms+1)), api.ErrFull, "answer", 0, "term", 0)
		}
		if p.Heap().Used() != 0 {
			t.Fatal("something was laid")
		}
		if wanted { // it still is
			p.answered("b")
			p.run("outs: b /1", "ends: normal /1")
		} else {
			p.says(9, "asks: a", 1)
		}
	}
	p := begun(t, "a", "f 0 0; where x0 l0; out x0; ret")
	p.says(9, "asks: a", 1)
	p.answered(written(deep(api.MaxDepth)))
	p.run("outs: "+written(deep(api.MaxDepth))+" /1", "ends: normal /1")
}

func TestAnswerWithoutRoom(t *testing.T) {
	p := narrow(8, 8).start(t, parsed(t, "a", "f 1 0; try @4; where x1 l0; end; ret; out x0; ret"), tm("{1}"))
	p.says(9, "asks: a", 2)
	p.gets("[m]", false)
	chain(t, p.Answer(tm("{2}")), api.ErrFull, "answer", 0)
	p.is(false, false, "[m]")
	p.isOver()
	p.Fail("late")
	p.isOver()
	// nothing is wanted any more, at once
	p = narrow(8, 8).start(t, parsed(t, "", "f 2 0; move x2 x1; timer x3 x0; exit x3"), tm("3"), tm("#p1"))
	p.says(9, "starts 3: #p1 #p1", 2)
	chain(t, p.Answer(tm("{1,2,3,4,5,6,7,8}")), api.ErrFull, "answer", 0)
	p.sentNothing()
	chain(t, p.Answer(tm("a")), api.ErrNone, "answer", 0)
	p.Fail("late")
	p.sentNothing()
	p.isOver()
	// an atom, a binary
	l := few(1, 1)
	l.atoms.Number("ahead")
	p = l.start(t, parsed(t, "ahead", "f 0 0; where x1 l0; ret"))
	p.says(9, "asks: ahead", 1)
	chain(t, p.Answer(tm("{new,<<1,2>>}")), api.ErrFull, "answer", 0)
	p.isOver()
	if l.atoms.Len() != 1 {
		t.Fatal("an atom stayed")
	}
	p = l.start(t, parsed(t, "ahead", "f 0 0; where x1 l0; ret"))
	p.says(9, "asks: ahead", 1)
	l.fillAtoms()
	chain(t, p.Answer(tm("new")), api.ErrFull, "answer", 0)
	p.isOver()
}

func TestAnswerBehindACollection(t *testing.T) {
	p := narrow(8, 8).start(t, parsed(t, "a", "f 1 0; move x0 x1; where x1 l0; out x1; ret"), tm("{1,{2}}"))
	p.says(9, "asks: a", 2)
	p.answered("[b,c]")
	p.audit()
	p.run("outs: [b,c] /1", "ends: normal /1")
	// what the answer is put in place of is held till then
	p = narrow(8, 8).start(t, parsed(t, "a", "f 1 0; where x0 l0; out x0; ret"), tm("{1,2}"))
	p.says(9, "asks: a", 1)
	chain(t, p.Answer(tm("[b,c]")), api.ErrFull, "answer", 0)
	p.isOver()
}

// Fail, behind each stop from Spawns to Prios: it is raised where it stopped.
func TestFail(t *testing.T) {
	list := append(wishes(), wish{line: "trap x0", says: "traps 1"}, wish{line: "prio x0", says: "prios 2"})
	some := []string{"#p1", "#r1", "a", "true", "2"}
	seen := []int{}
	for _, x := range list {
		for _, s := range some {
			p := wisher(t, x, s)
			stop, _ := p.Run(9)
			if stop.Kind < api.Spawns || stop.Kind > api.Prios || stop.Kind == api.Outs && !strings.HasPrefix(x.line, "out") {
				continue // it takes no such term
			}
			if !slices.Contains(seen, stop.Kind) {
				seen = append(seen, stop.Kind)
			}
			p.Fail("reason")
			p.Fail("another") // raised once
			chain(t, p.Answer(tm("late")), api.ErrNone, "answer", 0)
			if p.Sent() != 0 {
				t.Fatal("sent")
			}
			p.is(false, false, "")
			p.run("outs: caught /1", "outs: reason /1", "outs: d /1", "ends: caught /1")

			p = begunWith(t, s, "", "f 1 0; "+strings.ReplaceAll(strings.ReplaceAll(x.line, "x2", "x0"), " g x0", " f x0")+"; out x0; ret")
			if strings.HasPrefix(x.line, "timer") {
				p = roomy().start(t, parsed(t, "", "f 3 0; timer x0 x0; out x0; ret"), tms("1", "a", "b")...)
			}
			if stop, _ := p.Run(9); stop.Kind < api.Spawns || stop.Kind > api.Prios {
				t.Fatalf("%s of %s: %s", x.line, s, said(stop))
			}
			p.gets("mail", false)
			p.Fail("reason")
			_, err := p.Deliver(tm("late")) // it has ended
			chain(t, err, api.ErrNone, "deliver", 0)
			p.is(false, false, "mail")
			p.says(0, "ends: reason", 0)
			p.isOver()
		}
	}
	if len(seen) != api.Prios-api.Spawns+1 {
		t.Fatalf("behind %v", seen)
	}
}

// A reason that is no atom's name: nothing.
func TestFailWithAReasonThatIsNone(t *testing.T) {
	p := begun(t, "a", "f 0 0; try @3; where x1 l0; exit x1; out x0; ret")
	p.says(9, "asks: a", 2)
	p.Fail("")
	p.Fail(strings.Repeat("x", 256))
	p.answered("b")
	p.says(9, "ends: b", 1)
	for _, reason := range []string{"'", "\x00\xff", strings.Repeat("x", 255), "A b"} {
		p := begun(t, "a", "f 0 0; try @3; where x1 l0; exit x1; out x0; ret")
		p.says(9, "asks: a", 2)
		p.Fail(reason)
		p.says(9, "outs: "+written(api.Term{Kind: api.Atom, Name: reason}), 1)
	}
}

// Frames within are gone, and tries.
func TestFailGoesOutThroughFrames(t *testing.T) {
	p := begun(t, "a b", "f 0 1; move y0 l1; try @5; call g; end; ret; out x0; out y0; call g; ret", "g 0 0; out l0; ret")
	p.says(9, "outs: a", 4)
	p.Fail("late")
	p.run("outs: late /1", "outs: b /1", "outs: a /2", "ends: normal /2")
}

// An atom that is raised, and has no room, is memory.
func TestFailWithoutRoom(t *testing.T) {
	for _, caught := range []string{"try @3", "move x0 x0"} {
		l := roomy()
		p := l.start(t, parsed(t, "a", "f 0 0; "+caught+"; where x1 l0; exit l0; out x0; ret"))
		p.says(9, "asks: a", 2)
		l.fillAtoms()
		p.Fail("new")
		p.isOver()
	}
}

// Between a stop and what is answered other things may come.
func TestAnswerBehindOtherThings(t *testing.T) {
	p := begun(t, "a", "f 0 0; where x1 l0; out x1; peek x0 @2; out x0; ret")
	p.says(9, "asks: a", 1)
	p.gets("m", false)
	if p.Timeout() || p.Collect() != 0 {
		t.Fatal("turned")
	}
	p.answered("b")
	p.run("outs: b /1", "outs: m /2", "ends: normal /1")
	p = begun(t, "a", "f 0 0; where x1 l0; ret")
	p.says(9, "asks: a", 1)
	p.Drop()
	chain(t, p.Answer(tm("b")), api.ErrNone, "answer", 0)
	p.Fail("c")
	p.isOver()
}
