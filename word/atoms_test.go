package word

import (
	"math"
	"strings"
	"testing"
	"unsafe"

	"troupe/api"
)

// P4.1

func TestAnEmptyTable(t *testing.T) {
	a := NewAtoms()
	isTable(t, a)
	for _, n := range []int{math.MinInt, -2, 1, api.MaxAtoms - 1, api.MaxAtoms, math.MaxInt} {
		s, err := a.Name(n)
		if s != "" {
			t.Errorf("Name(%d): %q", n, s)
		}
		refused(t, err, api.ErrNone, link{"atom", n})
	}
	isTable(t, a) // what was asked in vain is not there
}

func TestNamesAreNumberedInTheirOrder(t *testing.T) {
	a := table(t, "ok", "error", "a", "zz", "b")
	isNumber(t, a, "a", 2)
	isNumber(t, a, "b", 4)
	isNumber(t, a, "ok", 0)
	isNumber(t, a, "new", 5)
	isNumber(t, a, "error", 1)
	isNumber(t, a, "new", 5)
	isTable(t, a, "ok", "error", "a", "zz", "b", "new")
}

func TestNamesAreBytes(t *testing.T) {
	all := []string{"é", "e", "E", "\xc3", "\xa9", "\xff", "\xff\xfe", "\xef\xbf\xbd", "\x00", "\x00\x00", " ", "a ", "a", "'a'", "\\x61", "\n"}
	table(t, all...)
	var single []string
	for i := range 256 {
		single = append(single, string([]byte{byte(i)}))
	}
	table(t, single...)
}

func TestLengthsOfNames(t *testing.T) {
	z := strings.Repeat("z", 1000)
	a := table(t, z[:1], z[:2], z[:254], z[:255], "y"+z[:254], z[:254]+"y")
	for _, n := range []int{0, 256, 257, 511, 512, 1000} {
		noNumber(t, a, z[:n], api.ErrArg)
	}
	noNumber(t, a, strings.Repeat("é", 128), api.ErrArg) // bytes count, not runes
	isNumber(t, a, strings.Repeat("é", 127), 6)
	if a.Len() != 7 {
		t.Errorf("%d", a.Len())
	}
	noNumber(t, NewAtoms(), "", api.ErrArg)
}

func TestAFullTable(t *testing.T) {
	all := names(api.MaxAtoms + 2)
	most, more := all[:api.MaxAtoms], all[api.MaxAtoms:]
	a := table(t, most...)
	for range 2 {
		for _, s := range more {
			noNumber(t, a, s, api.ErrFull)
		}
		for i, s := range most { // those that are there already go on
			isNumber(t, a, s, i)
		}
	}
	noNumber(t, a, "", api.ErrArg) // of both errors the one that is named first
	noNumber(t, a, strings.Repeat("z", 256), api.ErrArg)
	noNumber(t, a, strings.Repeat("z", 255), api.ErrFull)
	isTable(t, a, most...)
}

func TestTheLastPlaceOfATable(t *testing.T) {
	a := table(t, names(api.MaxAtoms-1)...)
	noNumber(t, a, "", api.ErrArg) // what is refused takes no place
	isNumber(t, a, "last", api.MaxAtoms-1)
	isNumber(t, a, "last", api.MaxAtoms-1)
	noNumber(t, a, "more", api.ErrFull)
}

func TestTwoTablesBesideOneAnother(t *testing.T) {
	a, b := NewAtoms(), NewAtoms()
	isNumber(t, a, "x", 0)
	isTable(t, b)
	isNumber(t, b, "y", 0)
	isNumber(t, a, "y", 1)
	isNumber(t, b, "x", 1)
	isTable(t, a, "x", "y")
	isTable(t, b, "y", "x")
	full := table(t, names(api.MaxAtoms)...)
	noNumber(t, full, "x", api.ErrFull)
	isNumber(t, b, "z", 2)
	isPlain(t, a, 1, name("x"))
	isPlain(t, b, 1, name("y"))
}

func TestTextsThatNamesArePiecesOfAreNotKept(t *testing.T) {
	text := strings.Repeat("z", 100)
	a := NewAtoms()
	isNumber(t, a, text[:10], 0)
	isSmall(t, a, name(text[:20]), 9)
	for n := range 2 {
		if s, _ := a.Name(n); unsafe.StringData(s) == unsafe.StringData(text) {
			t.Errorf("%d: the text itself", n)
		}
	}
}
