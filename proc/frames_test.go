package proc_test

import (
	"strings"
	"testing"

	"troupe/api"
)

func TestCallAndRet(t *testing.T) {
	p := begun(t, "a b c", "f 0 2; move x0 l0; move x1 l1; move y0 l2; call g; out x0; out x1; out x2; out y0; out y1; ret", "g 1 2; out x0; out y0; out y1; move y1 x1; move x1 x0; move x0 l2; move x2 y1; ret")
	p.run("outs: a /5", "outs: [] /1", "outs: [] /1", "outs: c /6", "outs: a /1", "outs: b /1", "outs: c /1", "outs: [] /1", "ends: normal /1")
	p.isOver()
}

// What register 0 is behind a return is what it was ahead of it.
func TestRetLeavesRegisters(t *testing.T) {
	p := begun(t, "a", "f 0 0; call g; out x0; move x0 l0; call g; out x0; ret", "g 0 0; ret")
	p.run("outs: [] /3", "outs: a /4", "ends: normal /1")
}

// Slots are the frame's own, and nil at first, also where a frame was before.
func TestSlotsAreTheFramesOwn(t *testing.T) {
	p := begun(t, "a b", "f 0 1; move y0 l0; call g; call g; out y0; ret", "g 0 2; out y0; out y1; move y0 l1; move y1 l1; call h; out y0; ret", "h 0 1; out y0; move y0 l0; ret")
	g := []string{"outs: [] /1", "outs: [] /4", "outs: b /3"}
	p.run("outs: [] /3", g[0], g[1], g[2], "outs: [] /3", g[0], g[1], g[2], "outs: a /2", "ends: normal /1")
}

func TestLastStandsInTheFramesPlace(t *testing.T) {
	p := begun(t, "a b", "f 0 1; move y0 l0; call g; out y0; out x0; ret", "g 0 1; move y0 l1; move x0 l1; last h", "h 1 1; out x0; out y0; move x0 l0; ret")
	p.run("outs: b /6", "outs: [] /1", "outs: a /3", "outs: a /1", "ends: normal /1")
	p = begun(t, "", "f 0 0; last g", "g 0 0; ret")
	p.run("ends: normal /2")
}

// Just Frames frames have room.
func TestFrames(t *testing.T) {
	text := "f 2 0; ifeq x0 l0 @3; out x0; ret; bif sub x0 x0; call f; ret"
	m := parsed(t, "0", text)
	p := roomy().start(t, m, tm(itoa(api.Frames-1)), tm("1"))
	p.run("outs: 0 /"+itoa(3*(api.Frames-1)+2), "ends: normal /"+itoa(api.Frames))
	p = roomy().start(t, m, tm(itoa(api.Frames)), tm("1"))
	p.run("ends: system_limit /" + itoa(3*api.Frames))
	p.isOver()
}

// One frame more than there is room for is raised where it is called, and can be caught there, or further out.
func TestFramesAreCaught(t *testing.T) {
	deepest := "g 2 1; move y0 x0; ifeq x0 l0 @7; try @5; call h; exit l0; out x0; jump @9; bif sub x0 x0; call g; out y0; ret"
	p := roomy().start(t, parsed(t, "0", "f 2 0; call g; ret", deepest, "h 0 0; ret"), tm(itoa(api.Frames-2)), tm("1"))
	p.says(1<<20, "outs: system_limit", 1+4*(api.Frames-2)+5)
	for n := range api.Frames - 1 { // no frame is lost
		p.says(1<<20, "outs: "+itoa(n), 2)
	}
	p.says(1<<20, "ends: normal", 2)

	p = roomy().start(t, parsed(t, "0", "f 2 1; move y0 x1; try @5; call g; end; ret; out x0; out y0; call g; ret", "g 0 0; call g; ret"), tm("{a}"), tm("b"))
	p.run("outs: system_limit /"+itoa(2+api.Frames+1), "outs: b /1", "ends: system_limit /"+itoa(api.Frames))
}

// A tail call goes on for ever.
func TestLastGoesOnForEver(t *testing.T) {
	p := begun(t, "a", "f 0 3; move y2 x0; tuple x0 x1 1; last f")
	p.says(100000, "spent", 100000)
	p.audit()
	if p.Heap().Used() > 8 {
		t.Fatalf("%d places are used", p.Heap().Used())
	}
}

func TestTryAndEnd(t *testing.T) {
	p := begun(t, "a", "f 0 0; try @4; out x0; end; ret; out l0; ret")
	p.run("outs: [] /2", "ends: normal /2")
	p = begun(t, "a b", "f 0 0; try @5; try @7; end; raise l0; ret; out x0; ret; exit l1")
	p.says(9, "outs: a", 5)
	p = begun(t, "a b", "f 0 0; try @4; end; raise l0; ret; out l1; ret")
	p.says(9, "ends: a", 3)
}

// What is raised goes on at the try's label, with it in register 0, and all else as it was.
func TestRaise(t *testing.T) {
	for _, s := range samples() {
		does(t, s, "move y0 x1; move y1 x0", "raise l3", "a b", "raised "+s+" b [] b a")
		does(t, "", "move y0 x1", "raise x2", "a b "+s, "raised "+s+" b "+s+" b []")
		p := begun(t, s, "f 0 0; raise l0")
		p.says(9, "ends: "+s, 1)
		p.isOver()
	}
}

func TestTriesWithinTries(t *testing.T) {
	p := begun(t, "a b c", "f 0 0; try @9; try @7; try @5; raise l0; ret; out x0; raise l1; out x0; raise l2; out x0; raise x0")
	p.run("outs: a /5", "outs: b /2", "outs: c /2", "ends: c /1")
	// eight are as many as may be
	code, labels := "f 0 0", ""
	want := []string{}
	for n := range 8 {
		code += "; try @" + itoa(10+2*(7-n))
		labels += "; out x0; raise l" + itoa(n+1)
		want = append(want, "outs: "+string(rune('a'+n))+" /"+itoa(map[bool]int{true: 10, false: 2}[n == 0]))
	}
	p = begun(t, "a b c d e f g h i", code+"; raise l0; exit l0"+labels)
	p.run(append(want, "ends: i /1")...)
}

// The innermost try of the innermost frame that has one; the frames within are gone.
func TestWhatIsRaisedGoesOutThroughFrames(t *testing.T) {
	p := begun(t, "a b", "f 0 1; move y0 l1; try @5; call g; end; ret; out x0; out y0; call h; ret",
		"g 0 1; move y0 l0; call h; ret", "h 0 1; raise l0")
	p.run("outs: a /7", "outs: b /1", "ends: a /2")
	// a try of a frame further in counts first, and one that is gone does not
	p = begun(t, "a b", "f 0 0; try @4; call g; end; ret; out l1; out x0; ret", "g 0 0; try @4; call h; end; ret; out x0; raise x0", "h 0 0; try @3; end; raise l0; out l1; exit l1")
	p.run("outs: a /8", "outs: b /2", "outs: a /1", "ends: normal /1")
	// slots and tries of the frame that catches are what they were
	p = begun(t, "a b", "f 0 2; move y1 l0; try @6; try @7; call g; out l1; exit l1; exit l1; out x0; out y1; raise l1", "g 0 2; move y1 l1; try @3; end; raise l0; exit l1")
	p.run("outs: a /9", "outs: a /1", "ends: b /2")
}

// A tail call takes no try along, and a frame that has returned has none.
func TestTriesGoWithTheirFrames(t *testing.T) {
	p := begun(t, "a b", "f 0 0; call g; raise l0", "g 0 0; try @3; end; ret; exit l1")
	p.run("ends: a /5")
	p = begun(t, "a b", "f 0 0; try @4; call g; end; ret; out x0; ret", "g 0 0; last h", "h 0 0; raise l0")
	p.run("outs: a /5", "ends: normal /1")
}

// OpExit ends the process whatever tries there are.
func TestExit(t *testing.T) {
	for _, s := range samples() {
		p := begun(t, s, "f 0 0; exit l0")
		p.says(9, "ends: "+s, 1)
		p.isOver()
		p = begun(t, s+" b", "f 0 1; move y0 l0; try @5; try @6; call g; exit y0; exit l1; exit l1", "g 0 0; try @3; move x0 l0; exit x0; exit l1")
		p.says(99, "ends: "+s, 7)
		p.isOver()
	}
}

// What is wrong is caught as what is raised.
func TestWhatIsWrongIsCaught(t *testing.T) {
	p := begun(t, "a", "f 0 0; try @4; call g; end; ret; out x0; ret", "g 0 0; head x1 l0; ret")
	p.run("outs: badarg /4", "ends: normal /1")
	p = begun(t, "a 0", "f 0 0; move x1 l1; move x0 l1; try @7; bif div x5 x0; end; ret; ret; out x0; out x1; out x5; ret")
	p.run("outs: badarith /5", "outs: 0 /1", "outs: [] /1", "ends: normal /1")
}

// A try that has caught is gone.
func TestATryCatchesOnce(t *testing.T) {
	p := begun(t, "a b", "f 0 0; try @3; raise l0; ret; out x0; raise l1")
	p.run("outs: a /3", "ends: b /1")
	// but may be made anew, for ever
	p = begun(t, "a b", "f 0 0; try @2; raise l0; jump @0")
	p.says(99999, "spent", 99999)
}

// A function without instructions that end it is run round and round, in parts or at once.
func TestSpent(t *testing.T) {
	p := begun(t, "a", "f 0 0; move x0 l0; jump @0")
	for _, budget := range []int{0, -1, -1 << 63} {
		p.says(budget, "spent", 0)
	}
	for _, budget := range []int{1, 2, 3, 1000, 65537} {
		p.says(budget, "spent", budget)
	}
	p.is(false, false, "")
}

func TestAStopAtTheLastReductionIsToldAtOnce(t *testing.T) {
	p := begun(t, "a", "f 0 0; move x0 l0; out x0; ret")
	p.says(1, "spent", 1)
	p.says(1, "outs: a", 1)
	p.says(0, "spent", 0)
	p.says(1, "ends: normal", 1)
	p = begun(t, "a", "f 0 0; move x0 l0; out x0; wait @2")
	p.says(2, "outs: a", 2)
	p.says(1, "waits -1", 1)
	p.says(1, "waits -1", 0)
	p.says(0, "waits -1", 0)
	p = begun(t, "a", "f 0 0; move x0 l0; exit x0")
	p.says(1<<63-1, "ends: a", 2)
}

// A run in parts is a run at once.
func TestRunsInParts(t *testing.T) {
	lits := "a 0 5 1"
	text := []string{"f 0 2; move x0 l2; move x1 l3; try @9; ifeq x0 l1 @6; exit l0; ret; bif sub x0 x0; out x0; jump @3; out x0; call g; ret", "g 0 0; out l0; raise l0"}
	m := parsed(t, lits, text...)
	var whole []string
	p := roomy().start(t, m)
	for range 20 {
		stop, used := p.Run(1 << 62)
		whole = append(whole, said(stop)+strings.Repeat(".", used))
	}
	for budget := 1; budget < 8; budget++ {
		p := roomy().start(t, m)
		var parts []string
		dots := ""
		for len(parts) < len(whole) {
			stop, used := p.Run(budget)
			dots += strings.Repeat(".", used)
			if used > budget {
				t.Fatalf("%d of %d", used, budget)
			}
			if stop.Kind == api.Spent {
				if used != budget {
					t.Fatalf("spent %d of %d", used, budget)
				}
				continue
			}
			parts = append(parts, said(stop)+dots)
			dots = ""
		}
		if strings.Join(parts, "\n") != strings.Join(whole, "\n") {
			t.Fatalf("by %d: %v, not %v", budget, parts, whole)
		}
	}
}
