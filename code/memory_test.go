package code_test

import (
	"bytes"
	"slices"
	"sync"
	"testing"

	"troupe/api"
	"troupe/code"
)

// R3, R4: what is handed in is neither turned nor kept, answers are new memory, calls have nothing in common.

// memory are all lists of a module, with their spare room, and a number for each of them.
type memory struct {
	terms [][]api.Term
	bytes [][]byte
	funcs []api.Func
	codes [][]api.Ins
}

func memoryOf(m api.Module) *memory {
	l := &memory{}
	l.gather(m.Lits)
	l.funcs = m.Funcs[:cap(m.Funcs)]
	for _, f := range m.Funcs {
		l.codes = append(l.codes, f.Code[:cap(f.Code)])
	}
	return l
}

func (l *memory) gather(ts []api.Term) {
	l.terms = append(l.terms, ts[:cap(ts)])
	for _, x := range ts {
		l.gather(x.Items)
		l.gather(x.Rest)
		l.bytes = append(l.bytes, x.Bytes[:cap(x.Bytes)])
	}
}

// stamp overwrites each list, spare room too, by a number of its own; stamped tells whether it holds that still.
func (l *memory) stamp() {
	for i, ts := range l.terms {
		for j := range ts {
			ts[j] = num(int64(i))
		}
	}
	for i, b := range l.bytes {
		for j := range b {
			b[j] = byte(i)
		}
	}
	for i, ins := range l.codes {
		for j := range ins {
			ins[j] = api.Ins{Op: i}
		}
	}
	for i := range l.funcs {
		l.funcs[i] = api.Func{Args: i}
	}
}

func (l *memory) stamped() bool {
	for i, ts := range l.terms {
		if slices.ContainsFunc(ts, func(x api.Term) bool { return !same(x, num(int64(i))) }) {
			return false
		}
	}
	for i, b := range l.bytes {
		if slices.ContainsFunc(b, func(x byte) bool { return x != byte(i) }) {
			return false
		}
	}
	for i, ins := range l.codes {
		if slices.ContainsFunc(ins, func(x api.Ins) bool { return x != api.Ins{Op: i} }) {
			return false
		}
	}
	for i, f := range l.funcs {
		if !sameFunc(f, api.Func{Args: i}) {
			return false
		}
	}
	return true
}

// roomy is the same module, each of its lists with spare room that holds a mark.
func roomy(m api.Module) api.Module {
	m.Lits = roomyTerms(m.Lits)
	funcs := slices.Clone(m.Funcs)
	for i := range funcs {
		ins := append(slices.Clone(funcs[i].Code), api.Ins{Op: 77}, api.Ins{Op: 77})
		funcs[i].Code = ins[:len(ins)-2]
	}
	funcs = append(funcs, api.Func{Name: "room"}, api.Func{Name: "room"})
	m.Funcs = funcs[:len(funcs)-2]
	return m
}

func roomyTerms(from []api.Term) []api.Term {
	var to []api.Term
	for _, x := range from {
		b := append(slices.Clone(x.Bytes), 77, 77)
		x.Items, x.Rest, x.Bytes = roomyTerms(x.Items), roomyTerms(x.Rest), b[:len(b)-2]
		to = append(to, x)
	}
	to = append(to, atom("room"), atom("room"))
	return to[:len(to)-2]
}

// untouched tells whether the spare room of a roomy module is as it was.
func untouched(m api.Module) bool {
	for _, f := range m.Funcs {
		if !slices.Equal(f.Code[len(f.Code):len(f.Code)+2], []api.Ins{{Op: 77}, {Op: 77}}) {
			return false
		}
	}
	room := m.Funcs[len(m.Funcs) : len(m.Funcs)+2]
	return room[0].Name == "room" && room[1].Name == "room" && untouchedTerms(m.Lits)
}

func untouchedTerms(ts []api.Term) bool {
	for _, x := range ts {
		if !untouchedTerms(x.Items) || !untouchedTerms(x.Rest) || !bytes.Equal(x.Bytes[len(x.Bytes):len(x.Bytes)+2], []byte{77, 77}) {
			return false
		}
	}
	return slices.EqualFunc(ts[len(ts):len(ts)+2], []api.Term{atom("room"), atom("room")}, same)
}

func TestWhatIsWrittenIsNotTurned(t *testing.T) {
	_, want := small(t)
	for i, m := range append(randomModules(300, 6), module(null(), atom("")), numbered(-1, 0)) {
		x := roomy(m)
		b, err := code.Write(x)
		again, other := code.Write(x)
		if !sameModule(x, m) || !untouched(x) || !bytes.Equal(b, again) || (err == nil) != (other == nil) {
			t.Errorf("%d: turned", i)
		}
	}
	if m, _ := small(t); !bytes.Equal(written(t, m), want) {
		t.Error("something stayed")
	}
}

func TestBytesAreNotKeptByTheWriter(t *testing.T) {
	for _, m := range append(randomModules(100, 6), api.Module{}, module(bin(1, 2, 3))) {
		x := roomy(m)
		a, b := written(t, x), written(t, x)
		want := slices.Clone(b)
		a = a[:cap(a)]
		for i := range a {
			a[i] ^= 255
		}
		if !bytes.Equal(b, want) || !sameModule(x, m) || !untouched(x) {
			t.Error("bytes share memory")
		}
		memoryOf(x).stamp()
		if !bytes.Equal(b, want) {
			t.Error("bytes hang on the module's memory")
		}
	}
}

func TestWhatIsReadIsNotTurnedNorKept(t *testing.T) {
	for _, m := range append(randomModules(300, 6), api.Module{}, module(bin(), tup(), bin(1, 2, 3)), api.Module{Name: "name"}) {
		want := written(t, m)
		room := append(slices.Clone(want), 77, 77, 77)
		b := room[:len(want)]
		x, err := code.Read(b)
		y, _ := code.Read(b)
		code.Read(b[:len(b)-1])
		code.Read(room)
		if err != nil || !bytes.Equal(b, want) || !bytes.Equal(room[len(want):], []byte{77, 77, 77}) {
			t.Fatalf("the bytes were turned: %v", err)
		}
		for i := range room {
			room[i] ^= 255
		}
		if !sameModule(x, m) || !sameModule(y, m) {
			t.Fatal("a module hangs on its bytes' memory")
		}
		all := memoryOf(x)
		all.stamp()
		if !all.stamped() {
			t.Error("two lists of a module share memory")
		}
		for i := range room {
			if room[i] ^= 255; i < len(want) && room[i] != want[i] {
				t.Fatal("a module shares memory with its bytes")
			}
		}
		if !sameModule(y, m) {
			t.Error("two modules share memory")
		}
	}
}

// A call that was refused leaves nothing behind, nor do others at the same time.
func TestCallsHaveNothingInCommon(t *testing.T) {
	ms := randomModules(60, 6)
	var all [][]byte
	for _, m := range ms {
		all = append(all, written(t, m))
	}
	var wait sync.WaitGroup
	for range 4 {
		wait.Go(func() {
			for i, m := range ms {
				code.Read(all[i][:len(all[i])/2])
				code.Write(module(null(), atom("")))
				code.Read(nil)
				if x, err := code.Read(all[i]); err != nil || !sameModule(x, m) {
					t.Errorf("%d: another module, %v", i, err)
				}
				if b, err := code.Write(m); err != nil || !bytes.Equal(b, all[i]) {
					t.Errorf("%d: other bytes, %v", i, err)
				}
			}
		})
	}
	wait.Wait()
}
