package proc_test

import (
	"math/rand"
	"slices"
	"strconv"
	"strings"
	"testing"

	"troupe/api"
	"troupe/fault"
	"troupe/heap"
	"troupe/tree"
	"troupe/vet"
)

// chance makes modules, messages and calls by chance.
type chance struct{ *rand.Rand }

func newChance(seed int64) chance { return chance{rand.New(rand.NewSource(seed))} }

func pick[T any](c chance, list ...T) T { return list[c.Intn(len(list))] }

// pool are texts of terms that come up.
const pool = "0 1 2 3 -1 1152921504606846976 9223372036854775807 a b true false infinity kill #p0 #p5 #p70 #r0 #r8 {} {1} {a,[1,2]} {{},<<7>>} [] [1] [1,2,3] [a|b] [[],{1}] <<>> <<1,2,3>> 1073741824"

func (c chance) term() api.Term { return tm(pick(c, strings.Fields(pool)...)) }

// terms are terms more, of which some are greater.
func (c chance) message() api.Term {
	t := c.term()
	for range c.Intn(3) {
		t = api.Term{Kind: api.Tuple, Items: []api.Term{t, c.term()}}
		if c.Intn(3) == 0 {
			t = tree.Make([]api.Term{c.term(), t}, c.term())
		}
	}
	return t
}

// module is a right module.
func (c chance) module() api.Module {
	m := api.Module{Name: "m", Lits: tms("0", "1", "infinity", "#p1", "#r2", "a", "true", "2")}
	for range 2 + c.Intn(7) {
		m.Lits = append(m.Lits, c.message())
	}
	for n := range 1 + c.Intn(3) {
		m.Funcs = append(m.Funcs, api.Func{Name: "f" + itoa(n), Args: c.Intn(4), Slots: c.Intn(4)})
	}
	for n := range m.Funcs {
		for range 3 + c.Intn(14) {
			m.Funcs[n].Code = append(m.Funcs[n].Code, api.Ins{})
		}
		for at := range m.Funcs[n].Code {
			m.Funcs[n].Code[at] = c.instruction(m, n)
		}
	}
	if c.Intn(40) == 0 { // a term that grows for ever
		m.Funcs[0].Code = []api.Ins{{Op: api.OpCons, B: c.Intn(2)}, {Op: api.OpTuple, A: 1, C: 1 + c.Intn(2)}, pick(c, api.Ins{Op: api.OpIfEq, A: 2, B: 1}, api.Ins{Op: api.OpOut, A: 1}, c.instruction(m, 0)), {Op: api.OpJump}, {Op: api.OpOut}, {Op: api.OpRet}}
	}
	for range 5000 {
		err := vet.Module(m)
		if err == nil {
			return m
		}
		f, _ := fault.Number(err, "function")
		at, _ := fault.Number(err, "at")
		m.Funcs[f].Code[at] = c.instruction(m, f)
	}
	return c.module()
}

// place is an operand that is a place.
func (c chance) place(f api.Func) int {
	if f.Slots > 0 && c.Intn(4) == 0 {
		return 16 + c.Intn(f.Slots)
	}
	return c.Intn(5)
}

// source is an operand that is a source.
func (c chance) source(m api.Module, f api.Func) int {
	if c.Intn(3) == 0 {
		return 64 + c.Intn(len(m.Lits))
	}
	return c.place(f)
}

// kinds is an operand that is a source, mostly a literal of one of these kinds.
func (c chance) kinds(m api.Module, f api.Func, kinds ...int) int {
	n := c.Intn(len(m.Lits))
	if slices.Contains(kinds, m.Lits[n].Kind) {
		return 64 + n
	}
	if c.Intn(8) == 0 {
		return c.source(m, f)
	}
	return c.kinds(m, f, kinds...)
}

// ops are the Ops, those more often that make much happen.
func ops() []int {
	var list []int
	for op := api.OpMove; op <= api.OpPrio; op++ {
		list = append(list, op)
	}
	return append(list, api.OpBif, api.OpBif, api.OpBif, api.OpCons, api.OpTuple, api.OpCall, api.OpCall, api.OpTry, api.OpTry, api.OpEnd, api.OpPeek, api.OpPeek, api.OpTake, api.OpNext, api.OpWait, api.OpAfter, api.OpAfter, api.OpAfter, api.OpIfEq, api.OpSend, api.OpMove, api.OpMove, api.OpMove, api.OpMove, api.OpRaise, api.OpTimer, api.OpTimer)
}

// instruction is an instruction of a function, whose operands are right.
func (c chance) instruction(m api.Module, n int) api.Ins {
	f := m.Funcs[n]
	label := func() int { return c.Intn(len(f.Code)) }
	callee := func() int { return c.Intn(len(m.Funcs)) }
	ins := api.Ins{Op: pick(c, ops()...)}
	switch ins.Op {
	case api.OpMove, api.OpHead, api.OpTail:
		ins.A, ins.B = c.place(f), c.source(m, f)
		if ins.Op == api.OpMove && c.Intn(3) == 0 {
			ins.A, ins.B = 8, pick(c, 65, 71)
		}
		if ins.Op == api.OpMove && c.Intn(3) == 0 {
			ins.A, ins.B = 9, pick(c, 67, 69)
		}
	case api.OpTuple:
		ins.A, ins.B, ins.C = c.place(f), c.Intn(3), c.Intn(4)
	case api.OpCons:
		ins.A, ins.B, ins.C = c.place(f), c.source(m, f), c.source(m, f)
	case api.OpJump, api.OpNext, api.OpWait, api.OpTry:
		ins.A = label()
	case api.OpIfEq, api.OpIfLt:
		ins.A, ins.B, ins.C = c.source(m, f), c.source(m, f), label()
	case api.OpIfKind:
		ins.A, ins.B, ins.C = c.source(m, f), 1+c.Intn(9), label()
	case api.OpIfTuple:
		ins.A, ins.B, ins.C = c.source(m, f), c.Intn(4), label()
	case api.OpElem:
		ins.A, ins.B, ins.C = c.place(f), c.source(m, f), c.Intn(3)
	case api.OpBif:
		ins.A, ins.B, ins.C = c.Intn(40), c.place(f), c.Intn(4)
	case api.OpCall, api.OpLast:
		ins.A = callee()
	case api.OpPeek:
		ins.A, ins.B = c.place(f), label()
	case api.OpAfter:
		ins.A, ins.B = label(), pick(c, c.source(m, f), 64, 65, 66)
	case api.OpSelf:
		ins.A = c.place(f)
	case api.OpTake, api.OpEnd, api.OpRet:
	default:
		return c.wish(m, f, ins.Op)
	}
	return ins
}

// wish is an instruction of any other Op, whose operands are right, and mostly of a kind that it takes.
func (c chance) wish(m api.Module, f api.Func, op int) api.Ins {
	ins := api.Ins{Op: op}
	switch op {
	case api.OpSpawn:
		ins.A, ins.B, ins.C = c.place(f), c.Intn(len(m.Funcs)), c.Intn(4)
	case api.OpSend:
		ins.A, ins.B = c.kinds(m, f, api.Atom, api.Pid), c.source(m, f)
	case api.OpKill:
		ins.A, ins.B = c.kinds(m, f, api.Pid), c.source(m, f)
	case api.OpMonitor:
		ins.A, ins.B = c.place(f), c.kinds(m, f, api.Pid)
	case api.OpWhere:
		ins.A, ins.B = c.place(f), c.kinds(m, f, api.Atom)
	case api.OpCancel:
		ins.A, ins.B = c.place(f), c.kinds(m, f, api.Ref)
	case api.OpLink, api.OpUnlink:
		ins.A = c.kinds(m, f, api.Pid)
	case api.OpDemon:
		ins.A = c.kinds(m, f, api.Ref)
	case api.OpTrap, api.OpReg, api.OpUnreg:
		ins.A = c.kinds(m, f, api.Atom)
	case api.OpPrio:
		ins.A = c.kinds(m, f, api.Int)
	case api.OpTimer:
		ins.A, ins.B = c.place(f), pick(c, 8, 8, 8, c.Intn(4)) // registers 8 to 10 are seldom turned but for it
	case api.OpYield:
	default:
		ins.A = c.source(m, f)
	}
	return ins
}

// call is what is asked of a process, and of a model of it.
type call struct {
	kind   string
	budget int
	term   api.Term
	reason string
}

// call is a call.
func (c chance) call() call {
	kinds := "run run run run run run deliver deliver bring answer answer fail timeout timeout collect"
	x := call{kind: pick(c, strings.Fields(kinds)...), budget: pick(c, -1, 0, 1, 2, 3, 5, 10, 40), term: c.message(), reason: pick(c, "a", "normal", "badarg", "b c", "")}
	if c.Intn(30) == 0 {
		x.term = pick(c, api.Term{}, api.Term{Kind: api.Pid, N: -1}, deep(api.MaxDepth+1))
	}
	return x
}

// watched is a process, and what may be told of it behind each call.
type watched struct {
	*tester
	stop      api.Stop
	used      int
	from      *heap.Heap // what is brought lies here
	collected bool       // ahead of each step
}

// does does a call, and is what came of it as a text.
func (w *watched) does(x call) string {
	if w.collected {
		w.Collect()
	}
	came := ""
	yes := func(is bool, err error) {
		came = strconv.FormatBool(is)
		if err != nil {
			came += " " + err.Error()
		}
	}
	switch x.kind {
	case "run":
		w.run(x.budget)
		came = said(w.stop) + " /" + itoa(w.used)
	case "deliver":
		yes(w.Deliver(x.term))
	case "bring":
		if tree.Right(x.term) == nil {
			v, _ := w.from.Store(x.term)
			yes(w.Bring(w.from, v))
			w.from.Collect()
		}
	case "answer":
		yes(false, w.Answer(x.term))
	case "fail":
		w.Fail(x.reason)
	case "timeout":
		yes(w.Timeout(), nil)
	case "collect":
		w.Collect()
	}
	sent := ""
	if v := w.Sent(); v != 0 {
		t, err := w.Heap().Load(v)
		if err != nil {
			return err.Error()
		}
		sent = written(t)
	}
	return came + flags(w.Waiting(), w.Clock()) + " sent " + sent + " mail " + allWritten(w.Mail())
}

// flags tell whether a process waits, and whether its clock runs.
func flags(waits, clock bool) string {
	text := ""
	if waits {
		text += " waits"
	}
	if clock {
		text += " clock"
	}
	return text
}

// run runs, step by step, if it is to be collected ahead of each.
func (w *watched) run(budget int) {
	if !w.collected || budget < 1 {
		w.stop, w.used = w.Run(budget)
		return
	}
	w.used = 0
	for w.used < budget {
		w.Collect()
		stop, used := w.Run(1)
		w.stop = stop
		w.used += used
		if stop.Kind != api.Spent {
			return
		}
	}
}

// does does a call, and is what must come of it as a text.
func (m *model) does(x call) string {
	came := ""
	right := tree.Right(x.term)
	switch x.kind {
	case "run":
		stop, used := m.run(x.budget)
		came = said(stop) + " /" + itoa(used)
	case "deliver", "bring":
		switch {
		case right != nil && x.kind == "bring":
		case right != nil:
			came = "false deliver: " + right.Error()
		default:
			woken, taken := m.gets(x.term)
			came = strconv.FormatBool(woken)
			if !taken {
				came += " deliver: none"
			}
		}
	case "answer":
		came = "false"
		if right != nil {
			came += " answer: " + right.Error()
		} else if !m.answers(x.term) {
			came += " answer: none"
		}
	case "fail":
		m.fails(x.reason)
	case "timeout":
		came = strconv.FormatBool(m.times())
	}
	sent := ""
	if len(m.sent) == 1 && written(m.sent[0]) != "0" {
		sent = written(m.sent[0])
	}
	return came + flags(m.waits, m.clock) + " sent " + sent + " mail " + allWritten(m.mail)
}

// asMuch is a place with as much memory as may be.
func asMuch() *place { return narrow(api.MaxWords, api.MaxWords) }

// cut is a text that is not too long to be told.
func cut(s string) string {
	if len(s) > 600 {
		return s[:600] + ".."
	}
	return s
}

// P18.5: over modules, messages and budgets by chance a process does what the chapter's words say, collected ahead of each step or not.
func TestAsTheChapterSays(t *testing.T) {
	seen := map[int]int{}
	dry := 0
	for seed := range int64(3000) {
		c := newChance(seed)
		m := c.module()
		var args []api.Term
		for range m.Funcs[0].Args {
			args = append(args, c.message())
		}
		plain, often := asMuch(), asMuch()
		one := &watched{tester: plain.start(t, m, args...), from: plain.heap(t)}
		two := &watched{tester: often.start(t, m, args...), from: often.heap(t), collected: true}
		x := newModel(m, args)
		left := 80
		for step := 0; step < left; step++ {
			ask := c.call()
			if x.over { // little happens any more
				left = min(left, step+4)
			}
			want := x.does(ask)
			got, again := one.does(ask), two.does(ask)
			if got != again && !one.dry() && !two.dry() {
				t.Fatalf("seed %d, call %d, %v:\n%s\ncollected:\n%s", seed, step, ask, cut(got), cut(again))
			}
			if got != want {
				if one.dry() || two.dry() {
					dry++
					break
				}
				t.Fatalf("seed %d, call %d, %v:\n%s\nnot\n%s", seed, step, ask, cut(got), cut(want))
			}
			if ask.kind == "run" {
				seen[one.stop.Kind]++
			}
		}
		one.audit()
		two.audit()
		one.isTidy()
	}
	t.Log(seen, dry)
	for kind := api.Spent; kind <= api.Full; kind++ {
		if seen[kind] < 5 {
			t.Errorf("%s came up %d times", names[kind], seen[kind])
		}
	}
	if dry > 60 {
		t.Errorf("memory ended %d times", dry)
	}
}

// dry tells whether memory, in fact, has nearly ended.
func (w *watched) dry() bool {
	return w.Heap().Used() > api.MaxWords/8 || w.place.bins.Used() > api.MaxWords/8 || w.place.atoms.Len() == api.MaxAtoms
}

// isTidy drops a process: nobody holds a binary then.
func (w *watched) isTidy() {
	w.t.Helper()
	w.Drop()
	w.from.Drop()
	if n := len(w.place.bins.Handles()); n != 0 {
		w.t.Fatalf("%d binaries are held", n)
	}
}

// Where memory ends it is where what was to be made has no room, collected as the heap is then: up to there all is as the chapter says.
func TestMemoryEndsWhereThereIsNoRoom(t *testing.T) {
	ended := map[int]int{}
	for seed := range int64(3000) {
		c := newChance(900000 + seed)
		m := c.module()
		var args []api.Term
		for range m.Funcs[0].Args {
			args = append(args, c.term())
		}
		words := 16 << c.Intn(4)
		p := &watched{tester: narrow(words, words-c.Intn(4)).startIfRoom(t, m, args), collected: c.Intn(2) == 0}
		if p.tester == nil {
			continue
		}
		x := newModel(m, args)
		for left := 150; left > 0; left-- {
			if x.over {
				left = min(left, 3)
			}
			ask := c.call()
			if ask.kind == "run" {
				ask.budget = 1
			}
			if ask.kind == "bring" || ask.kind == "deliver" && c.Intn(3) > 0 {
				continue
			}
			var ins api.Ins
			laid := map[int]bool{}
			if !x.over && !x.waits && len(x.levels) > 0 {
				ins = x.instruction()
			}
			for n := range x.laid {
				laid[n] = true
			}
			want := x.does(ask)
			got := p.does(ask)
			if got == want {
				continue
			}
			if why := p.hasNoRoom(ask, ins, x, laid); why == "" {
				t.Fatalf("seed %d: %v, %v:\n%s\nnot\n%s", seed, ask, ins, cut(got), cut(want))
			}
			ended[ins.Op]++
			break
		}
		p.audit()
		if p.Heap().Used() > p.place.conf.Quota {
			t.Fatal("more than the quota")
		}
	}
	for _, op := range []int{api.OpTuple, api.OpCons, api.OpBif, api.OpMove} {
		if ended[op] < 5 {
			t.Errorf("memory ended %d times at %d", ended[op], op)
		}
	}
}

// startIfRoom is a process, or nil, where its arguments have no room.
func (l *place) startIfRoom(t *testing.T, m api.Module, args []api.Term) *tester {
	room, _ := heap.New(l.conf.Words, l.conf.Quota, l.atoms, l.bins)
	for _, a := range args {
		if _, err := room.Store(a); err != nil {
			return nil
		}
	}
	room.Drop()
	return l.start(t, m, args...)
}

// hasNoRoom is what has no room on the heap of a process that parts from its model, at a call, or at an instruction; the empty text, if all has room.
func (w *watched) hasNoRoom(ask call, ins api.Ins, x *model, laid map[int]bool) string {
	h := w.Heap()
	w.Collect()
	lacks := func(t api.Term) bool {
		_, err := h.Store(t)
		return fault.Is(err, api.ErrFull)
	}
	switch ask.kind {
	case "deliver":
		if lacks(ask.term) {
			return "a message"
		}
		return ""
	case "answer":
		if lacks(ask.term) && w.ended() {
			return "an answer"
		}
		return ""
	}
	if w.stop.Kind != api.Full || w.used != 1 || !w.ended() {
		return ""
	}
	for _, operand := range []int{ins.A, ins.B, ins.C} {
		if n := operand - 64; n >= 0 && n < len(x.module.Lits) && !laid[n] && lacks(x.module.Lits[n]) {
			return "a literal"
		}
	}
	words := 0
	switch ins.Op {
	case api.OpTuple:
		words = 1 + ins.C
	case api.OpCons:
		words = 3
	case api.OpBif:
		if lacks(x.get(ins.B)) {
			return "an answer"
		}
	}
	if _, err := h.Alloc(words); words > 0 && fault.Is(err, api.ErrFull) {
		return "a block"
	}
	return ""
}

// ended tells whether a process runs no more.
func (w *watched) ended() bool {
	stop, used := w.Run(1)
	return stop.Kind == api.Ends && stop.Terms == nil && used == 0
}

// All short calls in order, of a process that does each thing that a call may meet.
func TestAllShortScripts(t *testing.T) {
	m := parsed(t, "a 3 {m} infinity 0", "f0 0 1; try @7; where y0 l0; out y0; after @4 l1; next @5; wait @6; raise l0; peek x1 @10; take; jump @11; out x0; after @0 l3; ret")
	calls := []call{{kind: "run", budget: 1}, {kind: "run", budget: 0}, {kind: "run", budget: 5}, {kind: "deliver", term: tm("{x,<<1>>}")}, {kind: "answer", term: tm("{b}")}, {kind: "fail", reason: "r"}, {kind: "timeout"}}
	const longest = 5
	var ordered [][]int
	ordered = append(ordered, nil)
	for n := 0; n < len(ordered); n++ {
		if len(ordered[n]) == longest {
			break
		}
		for k := range calls {
			ordered = append(ordered, append(slices.Clone(ordered[n]), k))
		}
	}
	for _, order := range ordered {
		if len(order) != longest {
			continue
		}
		p := &watched{tester: roomy().start(t, m)}
		x := newModel(m, nil)
		for _, lead := range []int{2, 4} { // up to where it asks, and behind its answer
			x.does(calls[lead])
			p.does(calls[lead])
		}
		for _, k := range order {
			want := x.does(calls[k])
			if got := p.does(calls[k]); got != want {
				t.Fatalf("%v: %s, not %s", order, got, want)
			}
		}
	}
}
