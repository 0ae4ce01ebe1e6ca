package vet_test

import (
	"bytes"
	"fmt"
	"math/rand"
	"slices"
	"sync"
	"testing"

	"troupe/api"
	"troupe/vet"
)

// R1, R3, R4: calls end, of the greatest modules too; what is handed in is neither turned nor kept, answers are new memory, calls have nothing in common.

// roomy is the same module in other memory, each of its lists with spare room that holds a mark.
func roomy(m api.Module) api.Module {
	m.Lits = roomyTerms(m.Lits)
	var funcs []api.Func
	for _, f := range m.Funcs {
		code := append(slices.Clone(f.Code), ins(77), ins(77))
		f.Code = code[:len(code)-2]
		funcs = append(funcs, f)
	}
	funcs = append(funcs, fn("room"), fn("room"))
	m.Funcs = funcs[:len(funcs)-2]
	return m
}

func roomyTerms(from []api.Term) []api.Term {
	var to []api.Term
	for _, x := range from {
		b := append(slices.Clone(x.Bytes), 77, 77)
		x.Items, x.Rest, x.Bytes = roomyTerms(x.Items), roomyTerms(x.Rest), b[:len(b)-2]
		to = append(to, x)
	}
	to = append(to, atom("room"), atom("room"))
	return to[:len(to)-2]
}

// asWas tells whether a roomy module is what the module is that it was made of, and its spare room as it was.
func asWas(x, m api.Module) bool {
	for i, f := range x.Funcs {
		of := m.Funcs[i]
		if f.Name != of.Name || f.Args != of.Args || f.Slots != of.Slots || !slices.Equal(f.Code, of.Code) ||
			!slices.Equal(f.Code[len(f.Code):len(f.Code)+2], []api.Ins{ins(77), ins(77)}) {
			return false
		}
	}
	room := x.Funcs[len(x.Funcs) : len(x.Funcs)+2]
	return x.Name == m.Name && len(x.Funcs) == len(m.Funcs) && room[0].Name == "room" && room[1].Name == "room" && termsAsWere(x.Lits, m.Lits)
}

func termsAsWere(x, of []api.Term) bool {
	alike := func(a, b api.Term) bool {
		return a.Kind == b.Kind && a.N == b.N && a.Name == b.Name && bytes.Equal(a.Bytes, b.Bytes) &&
			bytes.Equal(a.Bytes[len(a.Bytes):len(a.Bytes)+2], []byte{77, 77}) && termsAsWere(a.Items, b.Items) && termsAsWere(a.Rest, b.Rest)
	}
	room := x[len(x) : len(x)+2]
	return slices.EqualFunc(x, of, alike) && room[0].Name == "room" && room[1].Name == "room"
}

// samples are modules, right and wrong ones, with literals of all forms.
func samples() []api.Module {
	r := rand.New(rand.NewSource(14))
	lits := []api.Term{num(-7), atom("a"), tup(num(1), tup(), bin(1, 2)), {Kind: api.Nil}, bin(),
		{Kind: api.List, Items: []api.Term{num(1), atom("b")}, Rest: []api.Term{tup(num(2))}}}
	var all []api.Module
	for i := range 200 {
		m := moduleBy(r, 3, 12)
		m.Lits = append(m.Lits, lits...)
		if i%2 == 0 {
			mend(m)
		}
		if i%20 == 1 {
			m.Lits[r.Intn(len(m.Lits))] = api.Term{}
		}
		all = append(all, m)
	}
	return append(all, whole(), many(257), one(), one(end))
}

// judged is all that is told of a module.
func judged(m api.Module) string {
	text := fmt.Sprint(vet.Module(m))
	for f := -1; f <= len(m.Funcs); f++ {
		tries, err := vet.Tries(m, f)
		text += fmt.Sprint(tries, err)
	}
	return text
}

func TestWhatIsHandedInIsNotTurned(t *testing.T) {
	for i, m := range samples() {
		x := roomy(m)
		if a, b, c := judged(m), judged(x), judged(x); a != b || b != c {
			t.Errorf("%d: %s, %s, %s", i, a, b, c)
		}
		if !asWas(x, m) {
			t.Errorf("%d: turned", i)
		}
	}
}

// TestTriesAreNewMemory: no two answers share any, spare room too, and none hangs on the module's.
func TestTriesAreNewMemory(t *testing.T) {
	for i, m := range samples() {
		if vet.Module(m) != nil {
			continue
		}
		x := roomy(m)
		for f := range m.Funcs {
			a, _ := vet.Tries(x, f)
			b, _ := vet.Tries(x, f)
			want := slices.Clone(a)
			a = a[:cap(a)]
			for j := range a {
				a[j] = 77
			}
			if c, _ := vet.Tries(x, f); !slices.Equal(b, want) || !slices.Equal(c, want) {
				t.Errorf("%d: two answers share memory", i)
			}
			b = b[:cap(b)]
			for j := range b {
				b[j] = 78
			}
			if slices.Contains(a, 78) || !asWas(x, m) {
				t.Errorf("%d: an answer shares memory", i)
			}
		}
	}
}

// TestNothingIsKept: what is told of a module hangs on what it is then.
func TestNothingIsKept(t *testing.T) {
	m := one(try(2), end, ret)
	right(t, "first", m)
	before, _ := vet.Tries(m, 0)
	m.Funcs[0].Code[0] = take
	slips(t, "then", m.Funcs[0].Code, 1, api.ErrStack)
	m.Funcs[0].Code[1] = take
	hasTries(t, "at last", m.Funcs[0].Code, 0, 0, 0)
	if !slices.Equal(before, []int{0, 1, 0}) {
		t.Errorf("an answer was turned: %v", before)
	}
	err := vet.Module(one(end))
	vet.Module(one(take))
	vet.Module(least())
	wantChain(t, "a chain", err, api.ErrStack, "module", 0, "function", 0, "at", 0)
	f := err.(*api.Fault).Err.(*api.Fault).Err.(*api.Fault)
	f.N, f.Op, f.Err = 7, "turned", nil
	slips(t, "behind a chain that was turned", []api.Ins{end}, 0, api.ErrStack)
}

func TestCallsHaveNothingInCommon(t *testing.T) {
	ms := samples()
	var want []string
	for _, m := range ms {
		want = append(want, judged(m))
	}
	var wait sync.WaitGroup
	for range 4 {
		wait.Go(func() {
			for i, m := range ms {
				if got := judged(m); got != want[i] {
					t.Errorf("%d: %s, not %s", i, got, want[i])
				}
			}
		})
	}
	wait.Wait()
}

// greatest is a module of as many functions, each of this code, as there may be.
func greatest(code []api.Ins) api.Module {
	m := many(256)
	for i := range m.Funcs {
		m.Funcs[i].Code = code
	}
	return m
}

// TestTheGreatestModules: in order, back and forth from both ends to the middle, and with all labels waiting at once.
func TestTheGreatestModules(t *testing.T) {
	const n = 16384
	back, wide := make([]api.Ins, n), make([]api.Ins, n)
	for i := range n / 2 {
		back[i], back[n-1-i] = jump(n-1-i), jump(i+1)
		wide[i], wide[n-1-i] = ifeq(n-1-i), raise
	}
	back[n/2] = ret
	for name, code := range map[string][]api.Ins{"in order": append(takes(n-1), ret), "back and forth": back, "wide": wide} {
		m := greatest(code)
		if err := vet.Module(m); err != nil {
			t.Errorf("%s: %v", name, err)
		}
		if tries, err := vet.Tries(m, 255); err != nil || !slices.Equal(tries, make([]int, n)) {
			t.Errorf("%s: %d tries, %v", name, len(tries), err)
		}
	}
	m := greatest(back)
	m.Funcs[255].Code = slices.Clone(back)
	m.Funcs[255].Code[n/2] = end
	refusesAt(t, "the last one of the last function", m, 255, n/2, api.ErrStack)
}
