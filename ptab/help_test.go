package ptab_test

import (
	"math"
	"slices"
	"strings"
	"testing"

	"troupe/api"
	"troupe/ptab"
)

const above = api.MaxProcs // from one generation of a slot to the next

// fresh is an empty table.
func fresh(t *testing.T, size int) *ptab.Table {
	t.Helper()
	tab, err := ptab.New(size)
	if err != nil || tab == nil {
		t.Fatalf("New(%d): %v", size, err)
	}
	isTable(t, tab, nil)
	return tab
}

// filled is a table with n numbers given.
func filled(t *testing.T, size, n int) *ptab.Table {
	t.Helper()
	tab := fresh(t, size)
	for at := range n {
		adds(t, tab, int64(at))
	}
	return tab
}

// named is a table of ten, of whom six are there, with generations apart, some of them with names.
func named(t *testing.T) *ptab.Table {
	t.Helper()
	tab := filled(t, 10, 6)
	drops(t, tab, 1)
	drops(t, tab, 3)
	adds(t, tab, 1+above)
	drops(t, tab, 1+above)
	adds(t, tab, 1+2*above)
	registers(t, tab, 0, "b", "a")
	registers(t, tab, 1+2*above, "ab", "c", "aa")
	registers(t, tab, 5, "d")
	isTable(t, tab, []int64{0, 1 + 2*above, 2, 4, 5}, "a", "aa", "ab", "b", "c", "d")
	return tab
}

// isTable asks twice for all who are there, and for all names.
func isTable(t *testing.T, tab *ptab.Table, pids []int64, names ...string) {
	t.Helper()
	for range 2 {
		if got := tab.All(); !slices.Equal(got, pids) {
			t.Fatalf("All: %d, not %d", got, pids)
		}
		if got := tab.Names(); !slices.Equal(got, names) {
			t.Fatalf("Names: %q, not %q", got, names)
		}
	}
}

// adds adds one, who must be given this number.
func adds(t *testing.T, tab *ptab.Table, pid int64) {
	t.Helper()
	if got, err := tab.Add(); got != pid || err != nil {
		t.Fatalf("Add: %d, not %d: %v", got, pid, err)
	}
	lives(t, tab, pid)
}

// noAdd adds one to a table that is full.
func noAdd(t *testing.T, tab *ptab.Table, size int) {
	t.Helper()
	pids, names := tab.All(), tab.Names()
	if len(pids) != size {
		t.Fatalf("%d are there, not %d", len(pids), size)
	}
	pid, err := tab.Add()
	if pid != -1 {
		t.Fatalf("Add: %d", pid)
	}
	refused(t, err, api.ErrFull, "add", size)
	isTable(t, tab, pids, names...)
}

// lives asks all that may be asked of those that are there.
func lives(t *testing.T, tab *ptab.Table, pids ...int64) {
	t.Helper()
	for _, pid := range pids {
		if !tab.Live(pid) {
			t.Fatalf("Live(%d): no", pid)
		}
		if at, err := tab.Slot(pid); at != int(pid%above) || err != nil {
			t.Fatalf("Slot(%d): %d, %v", pid, at, err)
		}
		if !slices.Contains(tab.All(), pid) {
			t.Fatalf("All: %d, without %d", tab.All(), pid)
		}
	}
}

// drops drops one that is there, whose names must be these.
func drops(t *testing.T, tab *ptab.Table, pid int64, names ...string) {
	t.Helper()
	pids, all := tab.All(), tab.Names()
	if got, err := tab.Drop(pid); !slices.Equal(got, names) || err != nil {
		t.Fatalf("Drop(%d): %q, not %q: %v", pid, got, names, err)
	}
	pids = slices.DeleteFunc(pids, func(p int64) bool { return p == pid })
	all = slices.DeleteFunc(all, func(s string) bool { return slices.Contains(names, s) })
	isTable(t, tab, pids, all...)
	wrong(t, tab, api.ErrStale, pid)
	isNobodys(t, tab, names...)
}

// slotOf is the slot that a Fault tells of a number.
func slotOf(pid int64) int {
	if pid < 0 {
		return 0
	}
	return int(uint64(pid) & (above - 1))
}

// wrong asks all that may be asked of numbers that are nobody's; nothing is turned by it.
func wrong(t *testing.T, tab *ptab.Table, kind api.Errno, pids ...int64) {
	t.Helper()
	all, names := tab.All(), tab.Names()
	for _, pid := range pids {
		if tab.Live(pid) {
			t.Fatalf("Live(%d): yes", pid)
		}
		at, err := tab.Slot(pid)
		if at != -1 {
			t.Fatalf("Slot(%d): %d", pid, at)
		}
		refused(t, err, kind, "slot", slotOf(pid))
		gone, err := tab.Drop(pid)
		if gone != nil {
			t.Fatalf("Drop(%d): %q", pid, gone)
		}
		refused(t, err, kind, "drop", slotOf(pid))
		refused(t, tab.Register("no one", pid), kind, "register", 6)
		isNobodys(t, tab, "no one")
		isTable(t, tab, all, names...)
	}
}

// registers gives names to one that is there.
func registers(t *testing.T, tab *ptab.Table, pid int64, names ...string) {
	t.Helper()
	for _, name := range names {
		pids, all := tab.All(), tab.Names()
		if err := tab.Register(name, pid); err != nil {
			t.Fatalf("Register(%q, %d): %v", name, pid, err)
		}
		all = append(all, name)
		slices.SortFunc(all, strings.Compare)
		isTable(t, tab, pids, all...)
		isWhose(t, tab, pid, name)
	}
}

// noRegister gives a name that must be refused; nothing is turned by it.
func noRegister(t *testing.T, tab *ptab.Table, kind api.Errno, pid int64, name string) {
	t.Helper()
	pids, names := tab.All(), tab.Names()
	whose, _ := tab.Whereis(name)
	refused(t, tab.Register(name, pid), kind, "register", len(name))
	isTable(t, tab, pids, names...)
	if now, _ := tab.Whereis(name); now != whose {
		t.Fatalf("Register(%q, %d): refused, but it was %d's, and is %d's", name, pid, whose, now)
	}
}

// unregisters takes names away that are somebody's.
func unregisters(t *testing.T, tab *ptab.Table, names ...string) {
	t.Helper()
	for _, name := range names {
		pids, all := tab.All(), tab.Names()
		if err := tab.Unregister(name); err != nil {
			t.Fatalf("Unregister(%q): %v", name, err)
		}
		isTable(t, tab, pids, slices.DeleteFunc(all, func(s string) bool { return s == name })...)
		isNobodys(t, tab, name)
	}
}

// isWhose asks whose names are.
func isWhose(t *testing.T, tab *ptab.Table, pid int64, names ...string) {
	t.Helper()
	for _, name := range names {
		if got, err := tab.Whereis(name); got != pid || err != nil {
			t.Fatalf("Whereis(%q): %d, not %d: %v", name, got, pid, err)
		}
	}
}

// isNobodys asks for names that nobody has; nothing is turned by it.
func isNobodys(t *testing.T, tab *ptab.Table, names ...string) {
	t.Helper()
	pids, all := tab.All(), tab.Names()
	for _, name := range names {
		pid, err := tab.Whereis(name)
		if pid != -1 {
			t.Fatalf("Whereis(%q): %d", name, pid)
		}
		refused(t, err, api.ErrNone, "name", len(name))
		refused(t, tab.Unregister(name), api.ErrNone, "name", len(name))
	}
	isTable(t, tab, pids, all...)
}

// never are numbers that no table gives in any script of these tests.
func never() []int64 {
	all := []int64{-1, -2, -above, -above - 1, math.MinInt32, math.MinInt64, math.MinInt64 + 1, math.MinInt64 + above, math.MaxInt64, math.MaxInt64 - 1, math.MaxInt64 - above + 1}
	for _, n := range []int64{1 << 20, 1 << 31, 1 << 32, 1 << 33, 1 << 56, 1 << 62} {
		all = append(all, n, n+1, n+above-1, -n, -n+1)
	}
	return all
}

// refused asks for a chain of one Fault around a kind.
func refused(t *testing.T, err error, kind api.Errno, op string, n int) {
	t.Helper()
	f, ok := err.(*api.Fault)
	if !ok || f.Op != op || f.N != n || f.Err != error(kind) {
		t.Fatalf("%v: not a Fault %q of %d around %v", err, op, n, kind)
	}
}
