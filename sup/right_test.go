package sup_test

import (
	"math"
	"slices"
	"strings"
	"testing"

	"troupe/api"
	"troupe/fault"
	"troupe/sup"
)

// P17.1

func TestStrategies(t *testing.T) {
	for _, strategy := range strategies() {
		mayBe(t, strict(strategy, 1, 1, permanent()))
	}
	for _, strategy := range append(far(), -1, 0, 4, 5, 6) {
		mayNotBe(t, strict(strategy, 1, 1, permanent()), -1)
	}
}

func TestHowManyRestarts(t *testing.T) {
	for _, strategy := range strategies() {
		for m := range 1001 {
			mayBe(t, strict(strategy, m, 1, permanent()))
		}
		for _, m := range append(far(), -1, 1001, 1002, longest) {
			mayNotBe(t, strict(strategy, m, 1, permanent()), -1)
		}
	}
}

func TestWithinHowManyTicks(t *testing.T) {
	for _, strategy := range strategies() {
		for ticks := 1; ticks <= longest; ticks++ {
			mayBe(t, strict(strategy, 1, ticks, permanent()))
		}
		for _, ticks := range append(far(), -1, 0) {
			mayNotBe(t, strict(strategy, 1, ticks, permanent()), -1)
		}
	}
}

func TestHowManyChildren(t *testing.T) {
	for _, strategy := range strategies() {
		mayNotBe(t, strict(strategy, 1, 1), -1)
		mayNotBe(t, api.Spec{Strategy: strategy, M: 1, T: 1, Children: []api.Child{}}, -1)
		for n := 1; n <= most; n++ {
			mayBe(t, strict(strategy, 1, 1, children(n, permanent())...))
		}
		for _, n := range []int{most + 1, most + 2, 2 * most, 256, 257, 1<<16 + 1} {
			mayNotBe(t, strict(strategy, 1, 1, children(n, permanent())...), -1)
		}
	}
}

// P17.1, R6: bytes count, whatever they say.
func TestFuncsOfChildren(t *testing.T) {
	for n := range 300 {
		for _, name := range []string{strings.Repeat("f", n), strings.Repeat("\x00", n), strings.Repeat("\xff", n), strings.Repeat("é", n/2) + strings.Repeat("!", n%2)} {
			c := permanent()
			c.Func = name
			aChild(t, c, n >= 1 && n <= 255)
		}
	}
}

func TestRestartsOfChildren(t *testing.T) {
	for _, restart := range append(far(), -1, 0, 1, 2, 3, 4, 5) {
		c := permanent()
		c.Restart = restart
		aChild(t, c, restart == api.Permanent || restart == api.Transient || restart == api.Temporary)
	}
}

func TestTimeoutsOfChildren(t *testing.T) {
	for _, timeout := range append(far(), -1, 0, 1, 2, 1000, 1001, longest-1, longest) {
		c := permanent()
		c.Timeout = timeout
		aChild(t, c, timeout >= -1 && timeout <= longest)
	}
}

// aChild asks whether a child may be, at each place, alone and among others.
func aChild(t *testing.T, c api.Child, may bool) {
	t.Helper()
	for _, n := range []int{1, 2, 5, most} {
		for _, place := range []int{0, n / 2, n - 1} {
			s := spec(one, children(n, temporary())...)
			s.Children[place] = c
			if may {
				mayBe(t, s)
			} else {
				mayNotBe(t, s, place)
			}
		}
	}
}

// wrongChildren are children that may not be.
func wrongChildren() []api.Child {
	return []api.Child{{}, {Restart: 1}, {Func: strings.Repeat("f", 256)}, {Func: "f", Restart: 3}, {Func: "f", Restart: -1}, {Func: "f", Timeout: -2}, {Func: "f", Timeout: longest + 1}, {Func: "", Restart: -7, Timeout: math.MinInt}, {Func: "f", Restart: math.MaxInt, Timeout: math.MaxInt}}
}

// Which of several wrongs is told: what the spec itself has wrong, then the first child that is wrong.
func TestTheFirstWrongIsTold(t *testing.T) {
	for _, wrong := range wrongChildren() {
		for first := range 6 {
			s := spec(all, children(6, transient())...)
			for place := first; place < 6; place++ {
				s.Children[place] = wrongChildren()[(place*5+first)%len(wrongChildren())]
			}
			s.Children[first] = wrong
			mayNotBe(t, s, first)
			for _, bad := range [][3]int{{0, 1, 1}, {4, 1, 1}, {1, -1, 1}, {1, 1001, 1}, {1, 1, 0}, {1, 1, longest + 1}, {0, -1, 0}, {math.MaxInt, math.MaxInt, math.MaxInt}, {math.MinInt, math.MinInt, math.MinInt}} {
				mayNotBe(t, strict(bad[0], bad[1], bad[2], s.Children...), -1)
				mayNotBe(t, strict(bad[0], bad[1], bad[2]), -1)
				mayNotBe(t, strict(bad[0], bad[1], bad[2], children(33, wrong)...), -1)
			}
		}
		mayNotBe(t, spec(all, children(33, wrong)...), -1)
		mayNotBe(t, spec(all, children(32, wrong)...), 0)
	}
	mayNotBe(t, api.Spec{}, -1)
}

// The least and the greatest int in each number, one at a time and all at once.
func TestFarthestNumbers(t *testing.T) {
	for _, n := range []int{math.MinInt, math.MaxInt} {
		for _, c := range []struct{ strategy, m, t, restart, timeout, child int }{
			{n, 1, 1, 0, 0, -1}, {1, n, 1, 0, 0, -1}, {1, 1, n, 0, 0, -1}, {1, 1, 1, n, 0, 1}, {1, 1, 1, 0, n, 1}, {1, 1, 1, n, n, 1}, {n, n, n, n, n, -1},
		} {
			mayNotBe(t, strict(c.strategy, c.m, c.t, permanent(), api.Child{Func: "f", Restart: c.restart, Timeout: c.timeout}), c.child)
		}
	}
}

func TestChains(t *testing.T) {
	ofChild := spec(rest, permanent(), permanent(), temporary(), api.Child{Func: "f", Restart: 3})
	for _, c := range []struct {
		s    api.Spec
		text string
		path []string
	}{{api.Spec{}, "spec: conf", []string{"spec"}}, {ofChild, "spec: child: conf", []string{"spec", "child"}}} {
		_, ofNew := sup.New(c.s)
		for _, err := range []error{sup.Right(c.s), ofNew} {
			if err.Error() != c.text || fault.Kind(err) != api.ErrConf || !slices.Equal(fault.Path(err), c.path) {
				t.Errorf("%v, not %q", err, c.text)
			}
			if n, there := fault.Number(err, "spec"); n != 0 || !there {
				t.Errorf("%v: spec %d, %t", err, n, there)
			}
			if n, there := fault.Number(err, "child"); there != (len(c.path) > 1) || there && n != 3 {
				t.Errorf("%v: child %d, %t", err, n, there)
			}
		}
	}
}

// P17.1: a new one has done nothing.
func TestNew(t *testing.T) {
	for _, strategy := range strategies() {
		for n := 1; n <= most; n++ {
			m := fresh(t, spec(strategy, children(n, permanent())...))
			m.isIdle()
			m.begins(starts(count(0, n)...)...)
		}
	}
}
