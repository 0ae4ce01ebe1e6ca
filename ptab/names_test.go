package ptab_test

import (
	"slices"
	"strconv"
	"strings"
	"testing"

	"troupe/api"
)

// odd are names in the order of their bytes.
func odd() []string {
	return []string{"\x00", "\x00\x00", "\x00a", " ", "#p0", "A", "Z", "a", "a\x00", "a\x00b", "a ", "aa", "aaa", "ab", "a\x80", "b", "z", "\x7f", "\x80", "\xc3", "\xc3\xa4", "\xe2\x82\xac", "\xf0\x9f\x98\x80", "\xff", "\xff\x00", "\xff\xff"}
}

// P14.2

func TestOddNames(t *testing.T) {
	tab := filled(t, 3, 3)
	for i := range odd() {
		registers(t, tab, int64(i%2), odd()[i*7%len(odd())])
	}
	isTable(t, tab, []int64{0, 1, 2}, odd()...)
	noRegister(t, tab, api.ErrTaken, 2, "\xc3")
	isNobodys(t, tab, "", "\x00\x00\x00", "a\x00a", "\xc3\xa5", "\xc4", "\xef\xbf\xbd", "\xfe", "AA", "B")
	var zeros, ones []string
	for _, name := range odd() {
		if pid, err := tab.Whereis(name); err == nil && pid == 0 {
			zeros = append(zeros, name)
		} else {
			ones = append(ones, name)
		}
	}
	if len(zeros) != len(ones) {
		t.Fatalf("%q, %q", zeros, ones)
	}
	drops(t, tab, 0, zeros...)
	isTable(t, tab, []int64{1, 2}, ones...)
	drops(t, tab, 1, ones...)
	isTable(t, tab, []int64{2})
}

func TestNamesOfEachLength(t *testing.T) {
	for n := 1; n <= 255; n++ {
		tab := filled(t, 2, 2)
		name := strings.Repeat("n", n)
		registers(t, tab, 1, name)
		noRegister(t, tab, api.ErrTaken, 0, name)
		unregisters(t, tab, name)
		registers(t, tab, 1, name)
		drops(t, tab, 1, name)
		registers(t, tab, 0, name)
	}
	tab := filled(t, 2, 2)
	for _, n := range []int{0, 256, 257, 511, 512, 1000, 1 << 16, 1<<16 + 1, 1<<20 + 5} {
		name := strings.Repeat("n", n)
		noRegister(t, tab, api.ErrArg, 1, name)
		isNobodys(t, tab, name)
	}
}

// Bytes are counted, not runes.
func TestLengthsAreInBytes(t *testing.T) {
	tab := filled(t, 1, 1)
	registers(t, tab, 0, strings.Repeat("\xe2\x82\xac", 85))
	noRegister(t, tab, api.ErrArg, 0, strings.Repeat("\xe2\x82\xac", 86))
	noRegister(t, tab, api.ErrArg, 0, strings.Repeat("\x00", 256))
	registers(t, tab, 0, strings.Repeat("\xff", 255))
}

// Names that part only in their last byte are others.
func TestLongNamesAreToldApart(t *testing.T) {
	tab := filled(t, 4, 4)
	same := strings.Repeat("s", 254)
	registers(t, tab, 0, same+"b", same)
	registers(t, tab, 1, same+"a")
	isNobodys(t, tab, same[1:], same+"c")
	drops(t, tab, 0, same, same+"b")
	isTable(t, tab, []int64{1, 2, 3}, same+"a")
	unregisters(t, tab, same+"a")
}

func TestNamesOfWhom(t *testing.T) {
	tab := named(t)
	registers(t, tab, 4, "new")
	isWhose(t, tab, 4, "new")
	registers(t, tab, 1+2*above, "newer")
	isWhose(t, tab, 0, "a", "b")
	isWhose(t, tab, 1+2*above, "aa", "ab", "c", "newer")
	isWhose(t, tab, 5, "d")
	for _, pid := range []int64{3, 1, 1 + above} {
		noRegister(t, tab, api.ErrStale, pid, "x")
	}
	for _, pid := range slices.Concat([]int64{6, 9, 10, 63, 2 + above, 3 + above, 1 + 3*above}, never()) {
		noRegister(t, tab, api.ErrNone, pid, "x")
	}
	isNobodys(t, tab, "x")
}

func TestNamesThatAreTaken(t *testing.T) {
	tab := named(t)
	for _, name := range tab.Names() {
		for _, pid := range tab.All() { // its own too
			noRegister(t, tab, api.ErrTaken, pid, name)
		}
	}
}

// filler is one of many names.
func filler(i int) string { return "n" + strconv.Itoa(i) }

func TestManyNames(t *testing.T) {
	for _, owners := range []int{1, 2, 5, 64} {
		tab := filled(t, 64, owners)
		for i := range api.MaxNames {
			registers(t, tab, int64(i%owners), filler(i))
		}
		for _, pid := range tab.All() {
			noRegister(t, tab, api.ErrFull, pid, "more")
		}
		noRegister(t, tab, api.ErrFull, 0, filler(api.MaxNames))
		unregisters(t, tab, filler(17))
		registers(t, tab, 0, "more") // room again
		noRegister(t, tab, api.ErrFull, 0, filler(17))
		all := tab.Names()
		gone, err := tab.Drop(0)
		if err != nil || len(gone) < api.MaxNames/owners {
			t.Fatalf("Drop: %q, %v", gone, err)
		}
		isTable(t, tab, tab.All(), slices.DeleteFunc(all, func(s string) bool { return slices.Contains(gone, s) })...)
		adds(t, tab, above)
		for i := range gone {
			registers(t, tab, above, "again "+filler(i))
		}
		noRegister(t, tab, api.ErrFull, above, "more")
	}
}

// As many as there may be at once; how many there were is nothing to it.
func TestNamesThatAreGoneDoNotCount(t *testing.T) {
	tab := filled(t, 2, 2)
	for i := range 10 * api.MaxNames {
		registers(t, tab, 1, filler(i))
		unregisters(t, tab, filler(i))
	}
	for i := range api.MaxNames {
		registers(t, tab, 1, filler(i))
	}
	noRegister(t, tab, api.ErrFull, 1, "more")
}

// Which of several wrongs is told: the chapter's order.
func TestTheFirstWrongIsTold(t *testing.T) {
	tab := filled(t, 3, 3)
	drops(t, tab, 1)
	for i := range api.MaxNames {
		registers(t, tab, 0, filler(i))
	}
	long := strings.Repeat("l", 256)
	for _, name := range []string{"", long} {
		for _, pid := range slices.Concat([]int64{0, 1, 2, 3, above}, never()) { // no names ahead of all others
			noRegister(t, tab, api.ErrArg, pid, name)
		}
	}
	for _, name := range []string{filler(3), "more"} { // wrong numbers ahead of a name that is taken, and of too many
		noRegister(t, tab, api.ErrStale, 1, name)
		for _, pid := range slices.Concat([]int64{3, above, 1 + above}, never()) {
			noRegister(t, tab, api.ErrNone, pid, name)
		}
	}
	for _, pid := range []int64{0, 2} { // a name that is taken ahead of too many
		noRegister(t, tab, api.ErrTaken, pid, filler(3))
		noRegister(t, tab, api.ErrFull, pid, "more")
	}
}

func TestNamesAreTakenAnew(t *testing.T) {
	tab := filled(t, 3, 3)
	registers(t, tab, 0, "name")
	unregisters(t, tab, "name")
	registers(t, tab, 1, "name")
	unregisters(t, tab, "name")
	registers(t, tab, 1, "name")
	drops(t, tab, 1, "name")
	registers(t, tab, 2, "name")
	drops(t, tab, 2, "name")
	adds(t, tab, 1+above)
	registers(t, tab, 1+above, "name")
	isTable(t, tab, []int64{0, 1 + above}, "name")
}

func TestNamesThatAreNobodys(t *testing.T) {
	tab := fresh(t, 2)
	wrongs := []string{"", "x", "\x00", strings.Repeat("l", 255), strings.Repeat("l", 256), strings.Repeat("l", 1<<20)}
	isNobodys(t, tab, wrongs...)
	adds(t, tab, 0)
	adds(t, tab, 1)
	isNobodys(t, tab, wrongs...)
	registers(t, tab, 0, "name", "other")
	isNobodys(t, tab, wrongs...)
	isNobodys(t, tab, "nam", "names", "Name", "name ", " name", "name\x00")
	unregisters(t, tab, "name")
	isNobodys(t, tab, "name")
	drops(t, tab, 0, "other")
	isNobodys(t, tab, "name", "other")
	isNobodys(t, tab, wrongs...)
}

// P14.3
func TestANameIsOfOneThatLives(t *testing.T) {
	tab := fresh(t, 4)
	for step := range 5000 {
		pids := tab.All()
		switch {
		case len(pids) > 0 && step%11 == 0:
			tab.Drop(pids[step*7%len(pids)])
		case len(pids) > 0 && step%3 > 0:
			tab.Register(filler(step*step%100), pids[step%len(pids)])
		case step%6 == 0:
			tab.Unregister(filler(step % 100))
		default:
			tab.Add()
		}
		for _, name := range tab.Names() {
			pid, err := tab.Whereis(name)
			if err != nil || !tab.Live(pid) {
				t.Fatalf("%q is of %d, who is gone: %v", name, pid, err)
			}
		}
	}
}
