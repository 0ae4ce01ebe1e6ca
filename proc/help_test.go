package proc_test

import (
	"slices"
	"strconv"
	"strings"
	"testing"

	"troupe/api"
	"troupe/asm"
	"troupe/binary"
	"troupe/heap"
	"troupe/proc"
	"troupe/tree"
	"troupe/word"
)

// names are what the kinds of stops are called here.
var names = []string{"", "spent", "waits", "ends", "spawns", "sends", "links", "unlinks", "monitors", "demons", "traps", "kills", "registers", "asks", "unregs", "starts", "cancels", "outs", "yields", "prios", "full"}

// tm is the term of a text.
func tm(s string) api.Term {
	t, err := tree.Parse(s)
	if err != nil {
		panic(s + ": " + err.Error())
	}
	return t
}

// tms are the terms of texts.
func tms(texts ...string) []api.Term {
	var terms []api.Term
	for _, s := range texts {
		terms = append(terms, tm(s))
	}
	return terms
}

// written is the text of a term; of one that may not be it tells so.
func written(t api.Term) string {
	s, err := tree.Write(t)
	if err != nil {
		return "<" + err.Error() + ">"
	}
	return s
}

// allWritten are the texts of terms, with blanks between.
func allWritten(terms []api.Term) string {
	var texts []string
	for _, t := range terms {
		texts = append(texts, written(t))
	}
	return strings.Join(texts, " ")
}

// said is a stop as a text: its kind, its number if that is not 0, its terms.
func said(s api.Stop) string {
	text := "kind " + strconv.Itoa(s.Kind)
	if s.Kind > 0 && s.Kind < len(names) {
		text = names[s.Kind]
	}
	if s.N != 0 {
		text += " " + strconv.Itoa(s.N)
	}
	if len(s.Terms) > 0 {
		text += ": " + allWritten(s.Terms)
	}
	return text
}

// parsed is the module of these literals and functions. A function is its name, its numbers of arguments and slots, and its instructions, with ; between.
func parsed(t testing.TB, lits string, funcs ...string) api.Module {
	t.Helper()
	text := "module m\n"
	for _, l := range strings.Fields(lits) {
		text += "literal " + l + "\n"
	}
	for _, f := range funcs {
		for i, line := range strings.Split(f, ";") {
			lead := "  "
			if i == 0 {
				lead = "function "
			}
			text += lead + strings.TrimSpace(line) + "\n"
		}
	}
	m, err := asm.Parse(text)
	if err != nil {
		t.Fatalf("%v in\n%s", err, text)
	}
	return m
}

// place is where processes live: what they share, and how much memory each has.
type place struct {
	conf  api.Conf
	atoms *word.Atoms
	bins  *binary.Heap
}

// roomy is a place with memory enough.
func roomy() *place { return narrow(1<<14, 1<<14) }

// narrow is a place of processes with such a heap.
func narrow(words, quota int) *place {
	bins, err := binary.New(api.MaxHandles, api.MaxWords)
	if err != nil {
		panic(err)
	}
	return &place{conf: api.Conf{Words: words, Quota: quota}, atoms: word.NewAtoms(), bins: bins}
}

// start is a process with the number 5 that is to run the first function.
func (l *place) start(t testing.TB, m api.Module, args ...api.Term) *tester {
	t.Helper()
	p, err := proc.New(5, m, 0, args, l.conf, l.atoms, l.bins)
	if p == nil || err != nil {
		t.Fatalf("New: %v", err)
	}
	return &tester{Proc: p, t: t, place: l}
}

// heap is a heap that has the same atoms and binaries.
func (l *place) heap(t testing.TB) *heap.Heap {
	t.Helper()
	h, err := heap.New(api.MaxWords, api.MaxWords, l.atoms, l.bins)
	if err != nil {
		t.Fatal(err)
	}
	return h
}

// fillAtoms takes all numbers of atoms that are left.
func (l *place) fillAtoms() {
	for n := 0; l.atoms.Len() < api.MaxAtoms; n++ {
		l.atoms.Number("filled" + strconv.Itoa(n))
	}
}

// tester is a process that is tested.
type tester struct {
	*proc.Proc
	t     testing.TB
	place *place
}

// begun is a process in a roomy place that is to run the first of some functions.
func begun(t testing.TB, lits string, funcs ...string) *tester {
	t.Helper()
	return roomy().start(t, parsed(t, lits, funcs...))
}

// says runs a process once, and holds what it says against what it must say.
func (p *tester) says(budget int, want string, used int) api.Stop {
	p.t.Helper()
	stop, n := p.Run(budget)
	if got := said(stop); got != want || n != used {
		p.t.Fatalf("Run(%d): %s, %d; not %s, %d", budget, got, n, want, used)
	}
	return stop
}

// run runs a process till it ends, or waits, and wants just what it says, each stop with how many reductions it took.
func (p *tester) run(want ...string) {
	p.t.Helper()
	var got []string
	for range 1000 {
		stop, used := p.Run(1 << 20)
		got = append(got, said(stop)+" /"+strconv.Itoa(used))
		if stop.Kind == api.Ends || stop.Kind == api.Waits || stop.Kind == api.Full || stop.Kind == api.Spent {
			break
		}
	}
	if !slices.Equal(got, want) {
		p.t.Fatalf("said\n%s\nnot\n%s", strings.Join(got, "\n"), strings.Join(want, "\n"))
	}
}

// is asks whether a process waits, whether its clock runs, and for its mail.
func (p *tester) is(waiting, clock bool, mail string) {
	p.t.Helper()
	if p.Waiting() != waiting || p.Clock() != clock || allWritten(p.Mail()) != mail {
		p.t.Fatalf("waits %t, clock %t, mail %s; not %t, %t, %s", p.Waiting(), p.Clock(), allWritten(p.Mail()), waiting, clock, mail)
	}
}

// gets delivers a message, and wants to know whether the process is woken.
func (p *tester) gets(message string, woken bool) {
	p.t.Helper()
	if got, err := p.Deliver(tm(message)); err != nil || got != woken {
		p.t.Fatalf("Deliver(%s): %t, %v", message, got, err)
	}
}

// answered answers.
func (p *tester) answered(answer string) {
	p.t.Helper()
	if err := p.Answer(tm(answer)); err != nil {
		p.t.Fatalf("Answer(%s): %v", answer, err)
	}
}

// sent wants a word to be told as sent that is this term.
func (p *tester) sent(want string) {
	p.t.Helper()
	got, err := p.Heap().Load(p.Sent())
	if err != nil || written(got) != want {
		p.t.Fatalf("Sent: %s, %v; not %s", written(got), err, want)
	}
}

// isOver wants a process that has ended, or is full: it runs no more, and gets nothing.
func (p *tester) isOver() {
	p.t.Helper()
	for _, budget := range []int{5, 0, -1} {
		p.says(budget, "ends", 0)
	}
	woken, err := p.Deliver(tm("a"))
	chain(p.t, err, api.ErrNone, "deliver", 0)
	if woken || p.Waiting() || p.Timeout() || p.Sent() != 0 {
		p.t.Fatal("it has ended")
	}
	chain(p.t, p.Answer(tm("a")), api.ErrNone, "answer", 0)
	p.Fail("late")
	p.says(1, "ends", 0)
}

// audit looks through a process's heap: each block is reached from its roots behind a collection.
func (p *tester) audit() {
	p.t.Helper()
	p.Collect()
	reached := map[int]bool{}
	left := p.Roots()
	for len(left) > 0 {
		w := left[0]
		left = left[1:]
		b := int(w >> 3)
		if w&7 != 5 || reached[b] {
			continue
		}
		reached[b] = true
		n, err := p.Heap().Len(b)
		if err != nil {
			p.t.Fatalf("%d is no block", b)
		}
		mark, _ := p.Heap().Get(b, 0)
		_, looked, ok := word.Marked(mark)
		if !ok || looked >= n {
			p.t.Fatalf("%d has no mark", b)
		}
		for i := range looked {
			w, _ := p.Heap().Get(b, 1+i)
			left = append(left, w)
		}
	}
	if blocks := p.Heap().Blocks(); len(blocks) != len(reached) {
		p.t.Fatalf("%d blocks, of which %d are reached", len(blocks), len(reached))
	}
}

// chain holds a chain against what it must be: its kind, and the Ops and Ns of its Faults from the outside in.
func chain(t testing.TB, err error, kind api.Errno, faults ...any) {
	t.Helper()
	for at := 0; at < len(faults); at += 2 {
		f, ok := err.(*api.Fault)
		if !ok || f.Op != faults[at] || f.N != faults[at+1] {
			t.Fatalf("%#v: not the Fault %v", err, faults[at:at+2])
		}
		err = f.Err
	}
	if err != error(kind) {
		t.Fatalf("%#v: not %v", err, kind)
	}
}

// samples are terms of all kinds.
func samples() []string {
	return []string{"0", "1", "2", "3", "-1", "1073741824", "1073741825", "1152921504606846975", "1152921504606846976", "9223372036854775807", "-9223372036854775808", "a", "true", "false", "infinity", "#r0", "#r7", "#p0", "#p1152921504606846975", "{}", "{1,a}", "{{}}", "[]", "[1]", "[a,b|c]", "[[]]", "<<>>", "<<0,255>>"}
}

// kindOf is the kind of a text's term.
func kindOf(s string) int { return tm(s).Kind }

func itoa(n int) string { return strconv.Itoa(n) }
