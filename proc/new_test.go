package proc_test

import (
	"math"
	"slices"
	"strings"
	"testing"

	"troupe/api"
	"troupe/binary"
	"troupe/fault"
	"troupe/proc"
	"troupe/tree"
	"troupe/word"
)

// The chapter's example.
func TestExample(t *testing.T) {
	p := begun(t, "7", "f 0 0; move x0 l0; out x0; ret")
	p.says(10, "outs: 7", 2)
	p.says(10, "ends: normal", 1)
	p.says(10, "ends", 0)
}

// P18.1

// refused asks for a process that may not be, and wants its chain.
func refused(t *testing.T, l *place, m api.Module, f int, args []api.Term) error {
	t.Helper()
	p, err := proc.New(5, m, f, args, l.conf, l.atoms, l.bins)
	if p != nil || err == nil {
		t.Fatalf("taken: %v", err)
	}
	if l.atoms.Len() != 0 || len(l.bins.Handles()) != 0 || l.bins.Used() != 0 {
		t.Fatalf("something stayed: %d atoms, %v", l.atoms.Len(), l.bins.Handles())
	}
	return err
}

const two = "two 2 0; ret"

func TestNewOfAModuleThatMayNotBe(t *testing.T) {
	m := parsed(t, "a", "f 0 0; ret", two)
	turn := func(do func(m *api.Module)) api.Module {
		m := m
		m.Lits, m.Funcs = slices.Clone(m.Lits), slices.Clone(m.Funcs)
		do(&m)
		return m
	}
	for _, f := range []int{0, 1, 2, -1} { // whichever function, and whatever its arguments
		for _, args := range [][]api.Term{nil, {{}}} {
			err := refused(t, roomy(), api.Module{}, f, args)
			chain(t, err, api.ErrTable, "process", f, "module", 0)
			err = refused(t, roomy(), turn(func(m *api.Module) { m.Lits[0] = api.Term{} }), f, args)
			chain(t, err, api.ErrArg, "process", f, "module", 0, "literal", 0, "term", 0)
			err = refused(t, roomy(), turn(func(m *api.Module) { m.Funcs[1].Slots = 33 }), f, args)
			chain(t, err, api.ErrTable, "process", f, "module", 0, "function", 1)
			err = refused(t, roomy(), turn(func(m *api.Module) { m.Funcs[1].Code = []api.Ins{{Op: api.OpTake}} }), f, args)
			chain(t, err, api.ErrJump, "process", f, "module", 0, "function", 1, "at", 0)
			err = refused(t, narrow(0, 0), turn(func(m *api.Module) { m.Funcs[0].Code = []api.Ins{{Op: api.OpEnd}} }), f, args)
			chain(t, err, api.ErrStack, "process", f, "module", 0, "function", 0, "at", 0)
		}
	}
}

func TestNewOfAFunctionThatIsNotThere(t *testing.T) {
	m := parsed(t, "", "f 0 0; ret", two)
	for _, f := range []int{-1, 2, 3, -2, 1 << 32, math.MinInt, math.MaxInt} {
		for _, args := range [][]api.Term{nil, tms("a", "b"), {{}, {}}} {
			chain(t, refused(t, roomy(), m, f, args), api.ErrIndex, "process", f)
			chain(t, refused(t, narrow(1, 0), m, f, args), api.ErrIndex, "process", f)
		}
	}
}

func TestNewWithAnotherNumberOfArguments(t *testing.T) {
	m := parsed(t, "", "f 0 0; ret", two, "all 8 0; ret")
	wrong := api.Term{}
	for n := range 10 {
		for f, wants := range []int{0, 2, 8} {
			args := slices.Repeat([]api.Term{tm("1")}, n)
			if n == wants {
				l := roomy()
				if p, err := proc.New(5, m, f, args, l.conf, l.atoms, l.bins); p == nil || err != nil {
					t.Fatalf("%d of %d: %v", n, f, err)
				}
				continue
			}
			chain(t, refused(t, roomy(), m, f, args), api.ErrIndex, "process", f)
			chain(t, refused(t, narrow(0, 0), m, f, slices.Repeat([]api.Term{wrong}, n)), api.ErrIndex, "process", f)
		}
	}
}

// deep is a term that is so deep.
func deep(levels int) api.Term {
	t := tm("{}")
	for range levels - 1 {
		t = api.Term{Kind: api.Tuple, Items: []api.Term{t}}
	}
	return t
}

// wide is a term of so many parts.
func wide(parts int) api.Term {
	return api.Term{Kind: api.Bin, Bytes: make([]byte, parts-1)}
}

func TestNewWithAnArgumentThatMayNotBe(t *testing.T) {
	m := parsed(t, "", two)
	good := tm("a")
	big := deep(api.MaxDepth + 1)
	for _, l := range []*place{roomy(), narrow(1, 1), narrow(2, 2)} { // ahead of what the heap says
		chain(t, refused(t, l, m, 0, []api.Term{good, {}}), api.ErrArg, "process", 0, "term", 0)
		chain(t, refused(t, l, m, 0, []api.Term{{Kind: api.Pid, N: -1}, big}), api.ErrArg, "process", 0, "term", 0)
		chain(t, refused(t, l, m, 0, []api.Term{big, {}}), api.ErrFull, "process", 0, "term", api.MaxDepth)
		chain(t, refused(t, l, m, 0, []api.Term{good, wide(api.MaxTerms + 1)}), api.ErrFull, "process", 0, "term", 0)
		chain(t, refused(t, l, m, 0, []api.Term{{Kind: api.Tuple, Items: []api.Term{good, {}}}, good}), api.ErrArg, "process", 0, "term", 2)
	}
}

func TestNewWithWordsOrAQuotaThatMayNotBe(t *testing.T) {
	m := parsed(t, "", "f 0 0; ret", two)
	for _, x := range []struct{ words, quota, n int }{{1, 1, 1}, {0, 0, 0}, {-1, 1, -1}, {math.MinInt, 1, math.MinInt}, {math.MaxInt, 1, math.MaxInt}, {api.MaxWords + 1, 1, api.MaxWords + 1}, {2, 0, 0}, {2, 3, 3}, {10, -1, -1}, {10, math.MinInt, math.MinInt}, {10, math.MaxInt, math.MaxInt}} {
		chain(t, refused(t, narrow(x.words, x.quota), m, 0, nil), api.ErrArg, "process", 0, "heap", 0, "arena", x.n)
		chain(t, refused(t, narrow(x.words, x.quota), m, 1, tms("{1}", "b")), api.ErrArg, "process", 1, "heap", 0, "arena", x.n)
	}
	for _, x := range []struct{ words, quota int }{{2, 1}, {2, 2}, {api.MaxWords, 1}, {api.MaxWords, api.MaxWords}} {
		l := narrow(x.words, x.quota)
		l.start(t, m).run("ends: normal /1")
	}
}

func TestNewWithAnArgumentThatHasNoRoom(t *testing.T) {
	m := parsed(t, "", two)
	for _, x := range []struct {
		words, quota int
		a, b         string
		n            int // of the block that has no room
	}{{2, 2, "{}", "a", -1}, {4, 4, "{1}", "a", -1}, {2, 1, "{}", "a", 1}, {3, 3, "{1}", "a", 2}, {2, 2, "{}", "{}", 1}, {16, 2, "{1,2}", "new", 3}, {16, 15, "{1,2,3,4,5,6,7,8}", "new", 9}, {64, 7, "new", "[1,2]", 3}, {64, 4, "[new]", "[other]", 3}, {8, 8, "[1,new]", "9223372036854775807", 2}} {
		l := narrow(x.words, x.quota)
		if x.n < 0 { // it has room
			l.start(t, m, tms(x.a, x.b)...).run("ends: normal /1")
			continue
		}
		err := refused(t, l, m, 0, tms(x.a, x.b))
		chain(t, err, api.ErrFull, "process", 0, "store", 0, "alloc", x.n)
	}
}

// place with few handles and bytes.
func few(handles, bytes int) *place {
	l := roomy()
	l.bins, _ = binary.New(handles, bytes)
	return l
}

func TestNewWithABinaryThatHasNoRoom(t *testing.T) {
	m := parsed(t, "", two)
	chain(t, refused(t, few(1, 100), m, 0, tms("{<<1,2>>,new}", "<<3>>")), api.ErrFull, "process", 0, "store", 0, "put", 1)
	chain(t, refused(t, few(9, 4), m, 0, tms("[new,<<1,2>>]", "{<<1>>,<<3,4>>}")), api.ErrFull, "process", 0, "store", 0, "put", 2)
	l := few(2, 5)
	l.start(t, m, tms("<<1,2>>", "{<<1,2,3>>}")...).run("ends: normal /1")
	if got := l.bins.Handles(); !slices.Equal(got, []int{0, 1}) {
		t.Fatalf("%v", got)
	}
}

func TestNewWithAnAtomThatHasNoRoom(t *testing.T) {
	l := roomy()
	m := parsed(t, "", two)
	for l.atoms.Len() < api.MaxAtoms-1 {
		l.atoms.Number(strings.Repeat("x", l.atoms.Len()%200+1) + string(rune('a'+l.atoms.Len()/200)))
	}
	p, err := proc.New(5, m, 0, tms("{last,<<1>>}", "{<<2>>,beyond}"), l.conf, l.atoms, l.bins)
	if p != nil || l.atoms.Len() != api.MaxAtoms-1 || len(l.bins.Handles()) != 0 {
		t.Fatalf("taken, or something stayed: %d atoms, %v", l.atoms.Len(), l.bins.Handles())
	}
	chain(t, err, api.ErrFull, "process", 0, "store", 0, "atom", 6)
	l.start(t, m, tms("{last,last}", "xa")...).run("ends: normal /1")
}

func TestNewTellsOfTheFirstThatIsWrong(t *testing.T) {
	m := parsed(t, "", two)
	wrong := []api.Term{{}, {}}
	noRoom := tms("{1,2,3}", "a")
	for i, x := range []struct {
		m     api.Module
		f     int
		words int
		args  []api.Term
		path  []string
	}{
		{api.Module{}, 7, 0, wrong, []string{"process", "module"}},
		{m, 7, 0, wrong, []string{"process"}},
		{m, 0, 0, wrong[:1], []string{"process"}},
		{m, 0, 0, wrong, []string{"process", "term"}},
		{m, 0, 0, noRoom, []string{"process", "heap", "arena"}},
		{m, 0, 2, noRoom, []string{"process", "store", "alloc"}},
	} {
		err := refused(t, narrow(x.words, x.words), x.m, x.f, x.args)
		if got := fault.Path(err); !slices.Equal(got, x.path) {
			t.Errorf("%d: %v", i, err)
		}
	}
}

func TestNewLaysJustTheArguments(t *testing.T) {
	l := roomy()
	l.atoms.Number("ahead")
	p := l.start(t, parsed(t, "{never,asked}", "f 5 3; ret"), tms("{b,[1,a]}", "<<1,2>>", "1152921504606846976", "c", "[]")...)
	used := 3*4 + 8 + 4 // a tuple and two pairs, a binary, a number
	if got := p.Heap().Used(); got != used {
		t.Errorf("%d places are used, not %d", got, used)
	}
	if p.Collect() != 0 || p.Heap().Used() != used {
		t.Error("collected")
	}
	for n, want := range []string{"ahead", "b", "a", "c"} { // in the order in which Store of each asks for them
		if got, _ := l.atoms.Name(n); n > 1 && got == "" || n < 1 && got != want {
			t.Errorf("atom %d: %s", n, got)
		}
	}
	if l.atoms.Len() != 4 || !slices.Equal(l.bins.Handles(), []int{0}) {
		t.Errorf("%d atoms, %v", l.atoms.Len(), l.bins.Handles())
	}
	if n, _ := l.bins.Count(0); n != 1 {
		t.Errorf("held %d times", n)
	}
	p.audit()
}

func TestRegistersAreTheArgumentsAndNil(t *testing.T) {
	args := []string{"{1,[2]}", "<<9>>", "-9223372036854775808", "a", "#p3", "#r4", "[]", "[a|b]"}
	for n := range 9 {
		outs := ""
		want := []string{}
		for x := range api.Regs {
			outs += "; out x" + itoa(x)
			said := "[]"
			if x < n {
				said = args[x]
			}
			want = append(want, "outs: "+said+" /1")
		}
		outs += "; out y0; out y31"
		want = append(want, "outs: [] /1", "outs: [] /1", "ends: normal /1")
		p := roomy().start(t, parsed(t, "", "f "+itoa(n)+" 32"+outs+"; ret"), tms(args[:n]...)...)
		p.run(want...)
	}
}

func TestAnyFunctionMayBeRun(t *testing.T) {
	m := parsed(t, "a b c", "f 0 0; exit l0", "g 1 1; exit l1", "h 0 0; exit l2")
	for f, want := range []string{"a", "b", "c"} {
		l := roomy()
		p, err := proc.New(0, m, f, tms("1")[:m.Funcs[f].Args], l.conf, l.atoms, l.bins)
		if err != nil {
			t.Fatal(err)
		}
		(&tester{p, t, l}).run("ends: " + want + " /1")
	}
}

// The numbers of processes may be any that a Pid may have.
func TestNumbersOfProcesses(t *testing.T) {
	m := parsed(t, "", "f 0 0; self x3; out x3; ret")
	l := roomy()
	for _, pid := range []int64{0, 1, 64, 1 << 40, 1<<60 - 1} {
		p, err := proc.New(pid, m, 0, nil, l.conf, l.atoms, l.bins)
		if err != nil {
			t.Fatal(err)
		}
		(&tester{p, t, l}).run("outs: "+written(api.Term{Kind: api.Pid, N: pid})+" /2", "ends: normal /1")
	}
	for _, pid := range []int64{-1, 1 << 60, math.MinInt64, math.MaxInt64} { // no term tells them
		p, err := proc.New(pid, m, 0, nil, l.conf, l.atoms, l.bins)
		if err != nil {
			t.Fatal(err)
		}
		x := &tester{p, t, l}
		x.says(1, "full", 1)
		x.isOver()
		q, _ := proc.New(pid, parsed(t, "", "f 0 0; ret"), 0, nil, l.conf, l.atoms, l.bins)
		(&tester{q, t, l}).run("ends: normal /1")
	}
}

// What was handed in may be turned behind New: nothing of it is kept.
func TestNewKeepsNothingOfWhatIsHandedIn(t *testing.T) {
	l := roomy()
	m := parsed(t, "{a,[b]} <<1,2>>", "f 2 0; out l0; out l1; out x0; out x1; call g; ret", "g 0 0; out l0; ret")
	args := append(make([]api.Term, 0, 9), tms("{1,[2|x]}", "<<7>>")...)
	before := allWritten(args)
	p := l.start(t, m, args...)
	text, err := tree.Write(m.Lits[0])
	if allWritten(args) != before || text != "{a,[b]}" || err != nil || args[:9][5].Kind != 0 {
		t.Fatal("turned")
	}
	m.Lits[0].Items[1].Items[0] = tm("turned")
	m.Lits[1].Bytes[0] = 66
	m.Lits[0] = api.Term{}
	for i := range m.Funcs {
		for at := range m.Funcs[i].Code {
			m.Funcs[i].Code[at] = api.Ins{Op: 99}
		}
		m.Funcs[i] = api.Func{}
	}
	args[0].Items[1].Rest[0] = tm("turned")
	args[1].Bytes[0] = 66
	p.run("outs: {a,[b]} /1", "outs: <<1,2>> /1", "outs: {1,[2|x]} /1", "outs: <<7>> /1", "outs: {a,[b]} /2", "ends: normal /2")
	if l.atoms.Len() != word.NewAtoms().Len()+3 {
		t.Fatalf("%d atoms", l.atoms.Len())
	}
}
