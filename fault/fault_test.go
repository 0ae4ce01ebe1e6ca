package fault

import (
	"errors"
	"math"
	"slices"
	"strconv"
	"testing"

	"troupe/api"
)

// chain wraps root in Faults of these Ops, the outermost first, with N 1, 2, 3 ..
func chain(root error, ops ...string) error {
	for i := len(ops) - 1; i >= 0; i-- {
		root = At(ops[i], i+1, root)
	}
	return root
}

// foreign is an error of another kind that wraps one.
type foreign struct{ err error }

func (f foreign) Error() string { return "foreign" }
func (f foreign) Unwrap() error { return f.err }

// P1.1

func TestAtOfNilIsNil(t *testing.T) {
	for _, n := range []int{math.MinInt, -1, 0, 1, math.MaxInt} {
		if e := At("x", n, nil); e != nil {
			t.Errorf("%d: %v", n, e)
		}
	}
}

func TestAtIsAFaultOfTheThree(t *testing.T) {
	other := errors.New("other")
	for _, op := range []string{"", "alloc", "a: b", "\xff\n"} {
		for _, n := range []int{math.MinInt, -1, 0, 5, math.MaxInt} {
			for _, err := range []error{api.ErrFull, api.OK, other, chain(api.ErrNone, "in")} {
				e := At(op, n, err)
				var f *api.Fault
				if !errors.As(e, &f) || e != error(f) {
					t.Fatalf("%q %d %v: no Fault", op, n, err)
				}
				if f.Op != op || f.N != n || f.Err != err {
					t.Errorf("%q %d %v: %+v", op, n, err, *f)
				}
			}
		}
	}
}

func TestAtKeepsWhatErrIsAndWraps(t *testing.T) {
	root := errors.New("root")
	inner := At("inner", 2, foreign{root})
	e := At("outer", 1, inner)
	if !errors.Is(e, root) || !errors.Is(e, inner) {
		t.Error("errors.Is")
	}
	var w foreign
	if !errors.As(e, &w) || w.err != root {
		t.Error("errors.As")
	}
}

func TestAtMakesAFaultOfItsOwnEachTime(t *testing.T) {
	var a, b *api.Fault
	if !errors.As(At("x", 1, api.ErrArg), &a) || !errors.As(At("x", 1, api.ErrArg), &b) || a == b {
		t.Error("one Fault twice")
	}
}

// P1.2

func TestKind(t *testing.T) {
	other := errors.New("other")
	cases := []struct {
		name string
		err  error
		want api.Errno
	}{
		{"nil", nil, api.OK},
		{"a root", api.ErrStale, api.ErrStale},
		{"one Fault", chain(api.ErrFull, "alloc"), api.ErrFull},
		{"many Faults", chain(api.ErrSheet, "a", "b", "c"), api.ErrSheet},
		{"an Errno that has no name", chain(api.Errno(-7), "a"), -7},
		{"OK as root", chain(api.OK, "a"), api.OK},
		{"no Errno", other, api.ErrArg},
		{"no Errno in Faults", chain(other, "a", "b"), api.ErrArg},
		{"a Fault around nothing", &api.Fault{Op: "a", N: 1}, api.ErrArg},
		{"another kind between", At("a", 1, foreign{At("b", 2, api.ErrTaken)}), api.ErrTaken},
		{"another kind around nothing", foreign{}, api.ErrArg},
		{"joined: the first", At("a", 1, errors.Join(other, api.ErrNone, api.ErrFull)), api.ErrNone},
		{"joined, without one", errors.Join(other, other), api.ErrArg},
	}
	for _, c := range cases {
		if got := Kind(c.err); got != c.want {
			t.Errorf("%s: %d, not %d", c.name, got, c.want)
		}
	}
}

func TestPath(t *testing.T) {
	cases := []struct {
		name string
		err  error
		want []string
	}{
		{"nil", nil, nil},
		{"a root", api.ErrNone, nil},
		{"no Errno", errors.New("x"), nil},
		{"one", chain(api.ErrFull, "alloc"), []string{"alloc"}},
		{"outermost first, twice too", chain(api.ErrFull, "a", "b", "a", ""), []string{"a", "b", "a", ""}},
		{"without an Errno", chain(errors.New("x"), "a", "b"), []string{"a", "b"}},
		{"around nothing", At("a", 1, &api.Fault{Op: "b"}), []string{"a", "b"}},
		{"another kind around", foreign{chain(api.ErrFull, "a")}, []string{"a"}},
		{"another kind between", At("a", 1, foreign{foreign{At("b", 2, api.ErrFull)}}), []string{"a", "b"}},
	}
	for _, c := range cases {
		if got := Path(c.err); !slices.Equal(got, c.want) {
			t.Errorf("%s: %q, not %q", c.name, got, c.want)
		}
	}
}

func TestPathIsNewMemory(t *testing.T) {
	e := chain(api.ErrFull, "a", "b", "c")
	one, two := Path(e), Path(e)
	one[0] = "turned"
	_ = append(one[:1], "x", "y", "z")
	if !slices.Equal(two, []string{"a", "b", "c"}) || !slices.Equal(Path(e), two) {
		t.Errorf("%q", two)
	}
}

func TestNumber(t *testing.T) {
	e := At("out", -5, foreign{At("in", 0, At("out", 7, At("deep", math.MinInt, api.ErrNone)))})
	cases := []struct {
		err  error
		op   string
		want int
		ok   bool
	}{
		{e, "out", -5, true},
		{e, "in", 0, true},
		{e, "deep", math.MinInt, true},
		{e, "none", 0, false}, // the root's text is no Op
		{e, "", 0, false},
		{e, "ou", 0, false},
		{At("", 3, api.ErrArg), "", 3, true},
		{&api.Fault{Op: "a", N: 4}, "a", 4, true},
		{nil, "a", 0, false},
		{nil, "", 0, false},
		{api.ErrFull, "full", 0, false},
		{errors.New("a"), "a", 0, false},
	}
	for _, c := range cases {
		if n, ok := Number(c.err, c.op); n != c.want || ok != c.ok {
			t.Errorf("%v, %q: %d %v", c.err, c.op, n, ok)
		}
	}
}

func TestIs(t *testing.T) {
	e := chain(api.ErrFull, "a", "b")
	two := At("a", 1, errors.Join(api.ErrNone, chain(api.ErrStale, "b")))
	cases := []struct {
		name  string
		err   error
		kinds []api.Errno
		want  bool
	}{
		{"its kind", e, []api.Errno{api.ErrFull}, true},
		{"a root's", api.ErrFull, []api.Errno{api.ErrFull}, true},
		{"the first of many", e, []api.Errno{api.ErrFull, api.ErrNone}, true},
		{"the last of many", e, []api.Errno{api.ErrNone, api.OK, api.ErrFull}, true},
		{"others", e, []api.Errno{api.ErrNone, api.ErrArg, 99, -1}, false},
		{"no kinds", e, nil, false},
		{"an empty list", e, []api.Errno{}, false},
		{"OK", e, []api.Errno{api.OK}, false},
		{"OK in a chain", chain(api.OK, "a"), []api.Errno{api.OK}, false},
		{"OK itself", api.OK, []api.Errno{api.OK}, false},
		{"a chain without an Errno is not of ErrArg", chain(errors.New("x"), "a"), []api.Errno{api.ErrArg}, false},
		{"a kind that has no name", chain(api.Errno(99), "a"), []api.Errno{99}, true},
		{"another kind between", At("a", 1, foreign{api.ErrTaken}), []api.Errno{api.ErrTaken}, true},
		{"joined", two, []api.Errno{api.ErrStale}, true},
		{"joined, another", two, []api.Errno{api.ErrFull}, false},
		{"nil and OK", nil, []api.Errno{api.OK}, true},
		{"nil and OK among others", nil, []api.Errno{api.ErrArg, api.OK, api.ErrFull}, true},
		{"nil and others", nil, []api.Errno{api.ErrArg, api.ErrFull}, false},
		{"nil and no kinds", nil, nil, false},
	}
	for _, c := range cases {
		kinds := slices.Clone(c.kinds)
		if got := Is(c.err, kinds...); got != c.want {
			t.Errorf("%s: %v", c.name, got)
		}
		if !slices.Equal(kinds, c.kinds) {
			t.Errorf("%s: the kinds were turned: %v", c.name, kinds)
		}
	}
}

// P1.3

func TestClass(t *testing.T) {
	known := map[api.Errno]int{api.OK: 0, api.ErrNone: 1, api.ErrStale: 1, api.ErrTaken: 1, api.ErrFull: 2}
	kinds := []api.Errno{math.MinInt, math.MaxInt}
	for e := api.Errno(-30); e < 60; e++ {
		kinds = append(kinds, e)
	}
	for _, e := range kinds {
		want, ok := known[e]
		if !ok {
			want = 3
		}
		if got := Class(e); got != want {
			t.Errorf("%d: %d, not %d", e, got, want)
		}
	}
}

// P1.4

func TestTrim(t *testing.T) {
	e := At("a", 1, foreign{At("b", 2, api.ErrFull)})
	links := []error{e, errors.Unwrap(e), At("b", 2, api.ErrFull), api.ErrFull}
	links[2] = errors.Unwrap(links[1])
	for n, want := range links {
		if got := Trim(e, n); got != want {
			t.Errorf("%d: %v", n, got)
		}
	}
	for _, n := range []int{-1, -100, math.MinInt} {
		if Trim(e, n) != e {
			t.Errorf("%d: not the chain itself", n)
		}
	}
	for _, n := range []int{4, 5, 1000, math.MaxInt} {
		if got := Trim(e, n); got != nil {
			t.Errorf("%d: %v", n, got)
		}
	}
}

func TestTrimOfShortChains(t *testing.T) {
	for _, n := range []int{math.MinInt, -1, 0, 1, math.MaxInt} {
		if got := Trim(nil, n); got != nil {
			t.Errorf("nil, %d: %v", n, got)
		}
	}
	bare := error(&api.Fault{Op: "a"})
	for _, root := range []error{api.ErrFull, api.OK, bare, errors.Join(api.ErrFull, api.ErrNone)} {
		if Trim(root, 0) != root || Trim(root, -1) != root || Trim(root, 1) != nil || Trim(root, 2) != nil {
			t.Errorf("%v", root)
		}
	}
}

func TestTrimAtEveryPlaceOfALongChain(t *testing.T) {
	const most = 300
	e := error(api.ErrIndex)
	for n := most; n > 0; n-- {
		e = At("x", n, e)
	}
	for n := range most {
		var f *api.Fault
		if !errors.As(Trim(e, n), &f) || f.N != n+1 {
			t.Errorf("%d: %v", n, f)
		}
	}
	if Trim(e, most) != error(api.ErrIndex) || Trim(e, most+1) != nil {
		t.Error("the end")
	}
}

// P1.5

func TestAFaultMore(t *testing.T) {
	all := []api.Errno{api.OK, api.ErrArg, api.ErrFull, api.ErrNone, api.ErrStale, api.ErrTaken, api.ErrBytes, api.ErrSheet, -1, 99}
	errs := []error{errors.New("x"), chain(errors.New("x"), "a"), foreign{api.ErrNone}, errors.Join(api.ErrNone, api.ErrFull), &api.Fault{Op: "bare"}}
	for _, k := range all {
		errs = append(errs, k, chain(k, "a", "b"))
	}
	for _, e := range errs {
		more := At("more", 9, e)
		if Kind(more) != Kind(e) {
			t.Errorf("%v: the kind is turned", e)
		}
		for _, k := range all {
			if Is(more, k) != Is(e, k) {
				t.Errorf("%v: Is of %d is turned", e, k)
			}
		}
		if want := append([]string{"more"}, Path(e)...); !slices.Equal(Path(more), want) {
			t.Errorf("%v: %q", e, Path(more))
		}
	}
}

func TestText(t *testing.T) {
	cases := map[string]error{
		"alloc: full":          At("alloc", 5, api.ErrFull),
		"a: b: a: none":        chain(api.ErrNone, "a", "b", "a"),
		": : argument":         chain(api.ErrArg, "", ""),
		"a: unknown":           chain(api.Errno(99), "a"),
		"a: b: something else": chain(errors.New("something else"), "a", "b"),
	}
	for want, e := range cases {
		if e.Error() != want {
			t.Errorf("%q, not %q", e.Error(), want)
		}
	}
}

// R1: every call ends, and none panics.

// askAll calls all functions, and gives back what Kind, Is and Path say.
func askAll(err error) (api.Errno, bool, []string) {
	for _, n := range []int{-1, 0, 1, 2, 1000, math.MaxInt} {
		Trim(err, n)
	}
	Number(err, "a")
	Number(err, "")
	return Kind(err), Is(err, api.OK, api.ErrArg, api.ErrFull), Path(err)
}

func TestNilPointers(t *testing.T) {
	var none *api.Fault
	for name, e := range map[string]error{"itself": none, "wrapped": foreign{none}} {
		if k, is, path := askAll(e); k != api.ErrArg || is || len(path) != 0 {
			t.Errorf("%s: %d %v %q", name, k, is, path)
		}
	}
	e := At("a", 3, none)
	if k, is, path := askAll(e); k != api.ErrArg || is || !slices.Equal(path, []string{"a"}) {
		t.Errorf("%d %v %q", k, is, path)
	}
	if n, ok := Number(e, "a"); n != 3 || !ok {
		t.Errorf("%d %v", n, ok)
	}
	if n, ok := Number(e, ""); n != 0 || ok {
		t.Errorf("%d %v", n, ok)
	}
	if Trim(e, 1) != error(none) || Trim(e, 2) != nil {
		t.Error("Trim")
	}
}

// broken panics whatever it is asked; a list makes it a value that Go can't compare.
type broken struct{ list []int }

func (b broken) Error() string   { panic("broken") }
func (b broken) Unwrap() error   { panic("broken") }
func (b broken) Is(e error) bool { panic("broken") }
func (b broken) As(any) bool     { panic("broken") }

func TestErrorsThatPanic(t *testing.T) {
	for _, e := range []error{broken{}, foreign{broken{}}, errors.Join(broken{}), errors.Join(foreign{broken{}})} {
		if k, is, path := askAll(e); k != api.ErrArg || is || len(path) != 0 {
			t.Errorf("%d %v %q", k, is, path)
		}
		if path := Path(At("a", 1, e)); !slices.Equal(path, []string{"a"}) {
			t.Errorf("%q", path)
		}
	}
}

// listed wraps an error, and can't be compared.
type listed struct {
	list []int
	err  error
}

func (l listed) Error() string { return "listed" }
func (l listed) Unwrap() error { return l.err }

func TestErrorsThatCannotBeCompared(t *testing.T) {
	e := error(api.ErrFull)
	for range 10 {
		e = listed{err: listed{err: At("a", 1, e)}}
	}
	if k, is, path := askAll(e); k != api.ErrFull || !is || len(path) != 10 {
		t.Errorf("%d %v %q", k, is, path)
	}
	if Trim(e, 30) != error(api.ErrFull) || Trim(e, 31) != nil {
		t.Error("Trim")
	}
}

// ring is a chain of n Faults whose last one wraps the first one again, behind a tail of others.
func ring(n, tail int) error {
	last := &api.Fault{Op: "ring", N: n - 1}
	e := error(last)
	for i := n - 2; i >= 0; i-- {
		e = At("ring", i, e)
	}
	last.Err = e
	for i := range tail {
		e = At("tail", i, e)
	}
	return e
}

func TestChainsThatGoRound(t *testing.T) {
	for n := 1; n < 20; n++ {
		for tail := range 20 {
			e := ring(n, tail)
			if k, is, path := askAll(e); k != api.ErrArg || is || len(path) != 0 {
				t.Errorf("%d, %d: %d %v %q", n, tail, k, is, path)
			}
			for _, steps := range []int{0, 1, 5, 17, 64, 1000, math.MaxInt - 30} {
				var f *api.Fault
				if !errors.As(Trim(e, tail+steps), &f) || f.Op != "ring" || f.N != steps%n { // (the text of such a chain has no end)
					t.Errorf("%d, %d: not the link behind %d", n, tail, tail+steps)
				}
			}
		}
	}
}

func TestJoinedErrorsThatHoldThemselves(t *testing.T) {
	f := &api.Fault{Op: "a"}
	f.Err = errors.Join(api.ErrNone, errors.Join(errors.New("x"), f))
	if k, is, path := Kind(f), Is(f, api.ErrNone), Path(f); k != api.ErrArg || is || len(path) != 0 {
		t.Errorf("%d %v %q", k, is, path)
	}
}

func TestALongChain(t *testing.T) {
	const most = 100000
	e := error(api.ErrTaken)
	for n := most; n > 0; n-- {
		e = foreign{At("op"+strconv.Itoa(n), n, e)}
	}
	k, is, path := askAll(e)
	if k != api.ErrTaken || is || len(path) != most || path[most-1] != "op"+strconv.Itoa(most) {
		t.Errorf("%d %v %d", k, is, len(path))
	}
	if n, ok := Number(e, "op"+strconv.Itoa(most)); n != most || !ok {
		t.Errorf("%d %v", n, ok)
	}
	if Trim(e, 2*most) != error(api.ErrTaken) || Trim(e, 2*most+1) != nil {
		t.Error("Trim")
	}
}
