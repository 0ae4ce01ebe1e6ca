package ptab_test

import (
	"errors"
	"math"
	"math/rand"
	"slices"
	"testing"

	"troupe/api"
	"troupe/fault"
	"troupe/ptab"
)

// The example of the chapter.
func TestExample(t *testing.T) {
	tab := fresh(t, 2)
	adds(t, tab, 0)
	adds(t, tab, 1)
	noAdd(t, tab, 2)
	if _, err := tab.Add(); err == nil || err.Error() != "add: full" {
		t.Errorf("%v", err)
	}
	drops(t, tab, 0)
	adds(t, tab, 64)
	if tab.Live(0) {
		t.Error("Live(0): yes")
	}
	isTable(t, tab, []int64{64, 1})
}

// P14.1

func TestTablesThatMayBe(t *testing.T) {
	for size := 1; size <= api.MaxProcs; size++ {
		tab := fresh(t, size)
		wrong(t, tab, api.ErrNone, 0, 1, int64(size)-1, int64(size), above)
		for at := range size {
			adds(t, tab, int64(at))
		}
		noAdd(t, tab, size)
	}
}

func TestTablesThatMayNotBe(t *testing.T) {
	for _, size := range []int{0, -1, -api.MaxProcs, api.MaxProcs + 1, 2 * api.MaxProcs, 1 << 32, 1<<32 + 1, math.MinInt, math.MinInt + 1, math.MaxInt} {
		tab, err := ptab.New(size)
		if tab != nil {
			t.Errorf("New(%d): a table", size)
		}
		refused(t, err, api.ErrArg, "table", size)
	}
}

func TestTheLeastSlotThatIsFreeIsGiven(t *testing.T) {
	tab := filled(t, 6, 5)
	for _, pid := range []int64{3, 1, 4} {
		drops(t, tab, pid)
	}
	for _, pid := range []int64{1 + above, 3 + above, 4 + above, 5} { // the least first, not the one that was free first or last, nor one that is new
		adds(t, tab, pid)
	}
	noAdd(t, tab, 6)
	isTable(t, tab, []int64{0, 1 + above, 2, 3 + above, 4 + above, 5})
}

func TestAFreeSlotComesAheadOfANewOne(t *testing.T) {
	for at := range int64(4) {
		tab := filled(t, 5, 4)
		drops(t, tab, at)
		adds(t, tab, at+above)
		adds(t, tab, 4)
		noAdd(t, tab, 5)
	}
}

func TestAllDropped(t *testing.T) {
	for _, size := range []int{1, 2, 7, 63, api.MaxProcs} {
		for n := 1; n <= size; n += 1 + n/3 { // some were never given
			tab := filled(t, size, n)
			for _, at := range rand.New(rand.NewSource(int64(n))).Perm(n) {
				drops(t, tab, int64(at))
			}
			isTable(t, tab, nil)
			for at := range size {
				pid := int64(at)
				if at < n {
					pid += above
				}
				adds(t, tab, pid)
			}
			noAdd(t, tab, size)
		}
	}
}

// Whoever of a full table goes, there is room for one again, and just there.
func TestRoomBehindADrop(t *testing.T) {
	for _, size := range []int{1, 2, 3, 31, 63, api.MaxProcs} {
		tab := filled(t, size, size)
		for at := range int64(size) {
			noAdd(t, tab, size)
			drops(t, tab, at)
			adds(t, tab, at+above)
			noAdd(t, tab, size)
		}
	}
}

func TestARefusedAddTurnsNothing(t *testing.T) {
	tab := filled(t, 3, 3)
	registers(t, tab, 1, "one")
	for range 100 {
		noAdd(t, tab, 3)
	}
	wrong(t, tab, api.ErrNone, 3, 4, above, 1+above, 2+above)
	drops(t, tab, 1, "one")
	adds(t, tab, 1+above) // no generation was left out
	noAdd(t, tab, 3)
}

func TestASlotIsGivenAgainAndAgain(t *testing.T) {
	for _, size := range []int{1, 2, api.MaxProcs} {
		tab := filled(t, size, size)
		last := int64(size) - 1
		for g := range int64(500) {
			drops(t, tab, last+g*above)
			wrong(t, tab, api.ErrNone, last+(g+1)*above)
			adds(t, tab, last+(g+1)*above)
			wrong(t, tab, api.ErrStale, last, last+g/2*above, last+g*above)
			wrong(t, tab, api.ErrNone, last+(g+2)*above)
		}
		noAdd(t, tab, size)
	}
}

// Each slot has generations of its own.
func TestGenerationsAreTheSlotsOwn(t *testing.T) {
	tab := filled(t, 5, 4)
	for at := range int64(4) {
		for g := range at {
			drops(t, tab, at+g*above)
			adds(t, tab, at+(g+1)*above)
		}
	}
	isTable(t, tab, []int64{0, 1 + above, 2 + 2*above, 3 + 3*above})
	wrong(t, tab, api.ErrNone, above, 1+2*above, 2+3*above, 3+4*above, 4)
	wrong(t, tab, api.ErrStale, 1, 2, 2+above, 3, 3+above, 3+2*above)
	adds(t, tab, 4)
}

// A number that counts for a slot of its own must be told from one of a slot that the table has.
func TestNumbersOfNoSlot(t *testing.T) {
	for _, size := range []int{1, 2, 5, 63} {
		tab := filled(t, size, size)
		beyond := int64(size)
		wrong(t, tab, api.ErrNone, beyond, beyond+1, above-1, beyond+above, beyond+100*above)
		for at := range int64(size) {
			drops(t, tab, at)
		}
		wrong(t, tab, api.ErrNone, beyond, beyond+1, above-1, beyond+above, beyond+100*above)
	}
}

func TestNumbersThatWereNeverGiven(t *testing.T) {
	for _, size := range []int{1, 3, 10, api.MaxProcs} {
		tab := fresh(t, size)
		for n := range int64(size) {
			for at := n; at < int64(size); at++ {
				wrong(t, tab, api.ErrNone, at, at+above)
			}
			adds(t, tab, n)
			wrong(t, tab, api.ErrNone, n+above, n+2*above)
			wrong(t, tab, api.ErrNone, never()...)
		}
		for at := range int64(size) {
			drops(t, tab, at)
			wrong(t, tab, api.ErrNone, at+above, at+2*above) // what comes next is nobody's yet
		}
		wrong(t, tab, api.ErrNone, never()...)
	}
}

// Those below 0 are of no slot, whatever they come to modulo MaxProcs.
func TestNumbersBelowZero(t *testing.T) {
	for _, tab := range []*ptab.Table{fresh(t, 1), named(t), filled(t, api.MaxProcs, api.MaxProcs)} {
		for pid := int64(-3 * above); pid < 0; pid++ {
			wrong(t, tab, api.ErrNone, pid)
		}
	}
}

func TestNumbersThatAreGone(t *testing.T) {
	tab := filled(t, 4, 4)
	for at := range int64(4) {
		for g := range int64(at + 1) {
			wrong(t, tab, api.ErrNone, at+(g+1)*above)
			drops(t, tab, at+g*above)
			for old := range g + 1 {
				wrong(t, tab, api.ErrStale, at+old*above)
			}
			adds(t, tab, at+(g+1)*above)
			for old := range g + 1 {
				wrong(t, tab, api.ErrStale, at+old*above)
			}
		}
	}
	isTable(t, tab, []int64{above, 1 + 2*above, 2 + 3*above, 3 + 4*above})
	lives(t, tab, above, 1+2*above, 2+3*above, 3+4*above)
}

// The one that is dropped is gone, with all its names, and nobody else's.
func TestDropTellsItsNames(t *testing.T) {
	const last = 1 + 2*above
	for _, c := range []struct {
		pid   int64
		names []string
	}{{0, []string{"a", "b"}}, {last, []string{"aa", "ab", "c"}}, {2, nil}, {4, nil}, {5, []string{"d"}}} {
		tab := named(t)
		drops(t, tab, c.pid, c.names...)
		for _, other := range []int64{0, last, 2, 4, 5} {
			if other != c.pid {
				lives(t, tab, other)
			}
		}
	}
	tab := named(t)
	drops(t, tab, 0, "a", "b")
	isWhose(t, tab, last, "aa", "ab", "c")
	isWhose(t, tab, 5, "d")
	drops(t, tab, 5, "d")
	drops(t, tab, last, "aa", "ab", "c")
	isTable(t, tab, []int64{2, 4})
}

// The one that is given a slot anew has none of the names that were there.
func TestNamesAreNotInherited(t *testing.T) {
	tab := filled(t, 2, 2)
	registers(t, tab, 0, "x", "y")
	drops(t, tab, 0, "x", "y")
	adds(t, tab, above)
	isNobodys(t, tab, "x", "y")
	registers(t, tab, above, "y")
	registers(t, tab, 1, "x")
	wrong(t, tab, api.ErrStale, 0) // it takes no names of those that came behind it
	isWhose(t, tab, above, "y")
	drops(t, tab, above, "y")
	isWhose(t, tab, 1, "x")
}

func TestNamesThatWereTakenBackAreNotTold(t *testing.T) {
	tab := filled(t, 2, 2)
	registers(t, tab, 0, "x", "y", "z")
	unregisters(t, tab, "y")
	drops(t, tab, 0, "x", "z")
	drops(t, tab, 1)
}

func TestAllAreBySlot(t *testing.T) {
	tab := filled(t, api.MaxProcs, api.MaxProcs)
	var want []int64
	for at := range int64(api.MaxProcs) {
		pid := at
		for pid/above < 63-at { // the greater the slot, the less the number
			drops(t, tab, pid)
			pid += above
			adds(t, tab, pid)
		}
		want = append(want, pid)
	}
	isTable(t, tab, want)
	drops(t, tab, want[0])
	drops(t, tab, want[20])
	drops(t, tab, want[63])
	isTable(t, tab, slices.Concat(want[1:20], want[21:63]))
}

// P14.1, P14.2: each refusal is a chain of one Fault around a kind.
func TestChains(t *testing.T) {
	tab := filled(t, 9, 9)
	drops(t, tab, 7)
	registers(t, tab, 3, "taken")
	_, none := ptab.New(65)
	_, dropNone := tab.Drop(8 + 3*above)
	_, dropStale := tab.Drop(7)
	_, slotNone := tab.Slot(-77)
	_, slotStale := tab.Slot(7)
	_, whose := tab.Whereis("absent")
	adds(t, tab, 7+above)
	_, full := tab.Add()
	for _, c := range []struct {
		err  error
		kind api.Errno
		op   string
		n    int
		text string
	}{
		{none, api.ErrArg, "table", 65, "table: argument"},
		{full, api.ErrFull, "add", 9, "add: full"},
		{dropNone, api.ErrNone, "drop", 8, "drop: none"},
		{dropStale, api.ErrStale, "drop", 7, "drop: stale"},
		{slotNone, api.ErrNone, "slot", 0, "slot: none"},
		{slotStale, api.ErrStale, "slot", 7, "slot: stale"},
		{whose, api.ErrNone, "name", 6, "name: none"},
		{tab.Unregister("away"), api.ErrNone, "name", 4, "name: none"},
		{tab.Register("", 3), api.ErrArg, "register", 0, "register: argument"},
		{tab.Register("ab", 10), api.ErrNone, "register", 2, "register: none"},
		{tab.Register("abc", 7), api.ErrStale, "register", 3, "register: stale"},
		{tab.Register("taken", 3), api.ErrTaken, "register", 5, "register: taken"},
	} {
		n, there := fault.Number(c.err, c.op)
		if !there || n != c.n || fault.Kind(c.err) != c.kind || !errors.Is(c.err, c.kind) || c.err.Error() != c.text || len(fault.Path(c.err)) != 1 {
			t.Errorf("%v: not %q of %d", c.err, c.text, c.n)
		}
	}
}

// P14.3
func TestNoNumberIsGivenTwice(t *testing.T) {
	for _, size := range []int{1, 2, 5, api.MaxProcs} {
		tab := fresh(t, size)
		given := map[int64]bool{}
		for step := range 20000 {
			if pids := tab.All(); len(pids) == size || len(pids) > 0 && step*step%7 < 3 {
				if _, err := tab.Drop(pids[step*31%len(pids)]); err != nil {
					t.Fatal(err)
				}
				continue
			}
			pid, err := tab.Add()
			if err != nil || given[pid] || pid < 0 || pid%above >= int64(size) {
				t.Fatalf("Add: %d, given ahead of it: %t: %v", pid, given[pid], err)
			}
			given[pid] = true
		}
		if len(given) < 8000 {
			t.Fatalf("%d were given", len(given))
		}
		for pid := range given {
			if !slices.Contains(tab.All(), pid) {
				if _, err := tab.Slot(pid); !errors.Is(err, api.ErrStale) {
					t.Fatalf("%d: %v", pid, err)
				}
			}
		}
	}
}
