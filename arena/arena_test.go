package arena

import (
	"math"
	"slices"
	"testing"

	"troupe/api"
)

const most = api.MaxWords

// The chapter's example.
func TestExample(t *testing.T) {
	a := fresh(t, 16, 16)
	allocs(t, a, 1, 1)
	allocs(t, a, 2, 3)
	allocs(t, a, 1, 7)
	frees(t, a, 3)
	allocs(t, a, 1, 9)
	if a.Used() != 6 {
		t.Errorf("%d used", a.Used())
	}
	p, err := a.Alloc(9)
	if p != 0 || err == nil || err.Error() != "alloc: full" {
		t.Errorf("%d %v", p, err)
	}
}

// P3.1

func TestNewOfWrongNumbers(t *testing.T) {
	cases := []struct{ size, quota, n int }{
		{1, 1, 1}, {0, 1, 0}, {-1, 1, -1}, {-2, -2, -2}, {math.MinInt, 1, math.MinInt},
		{most + 1, 1, most + 1}, {most + 1, most + 1, most + 1}, {math.MaxInt, 5, math.MaxInt},
		{2, 0, 0}, {2, -1, -1}, {2, 3, 3}, {100, 101, 101}, {100, math.MinInt, math.MinInt}, {100, math.MaxInt, math.MaxInt},
		{most, most + 1, most + 1}, {most, 0, 0},
		{1, 0, 1}, {0, 0, 0}, {1, 7, 1}, {most + 1, 0, most + 1}, {-5, 100, -5}, // both: the size is named first
	}
	for _, c := range cases {
		a, err := New(c.size, c.quota)
		if a != nil {
			t.Errorf("New(%d, %d): an arena", c.size, c.quota)
		}
		refused(t, err, api.ErrArg, link{"arena", c.n})
	}
}

func TestNewIsEmpty(t *testing.T) {
	for _, c := range [][2]int{{2, 1}, {2, 2}, {3, 3}, {3, 1}, {100, 1}, {100, 99}, {100, 100}, {most, 1}, {most, most - 1}, {most, most}, {most - 1, most - 1}} {
		isEmpty(t, fresh(t, c[0], c[1]))
	}
}

func TestArenasHaveNothingInCommon(t *testing.T) {
	a, b := fresh(t, 16, 16), fresh(t, 16, 16)
	allocs(t, a, 2, 1)
	set(t, a, 1, 0, 5)
	isEmpty(t, b)
	allocs(t, b, 2, 1)
	holdsWord(t, b, 1, 0, 0)
	a.Clear()
	frees(t, b, 1)
}

// P3.2

func TestAllocOfEachClass(t *testing.T) {
	cases := [][2]int{ // words, places
		{0, 2}, {1, 2}, {2, 4}, {3, 4}, {4, 8}, {7, 8}, {8, 16}, {15, 16}, {16, 32}, {1023, 1024}, {1024, 2048},
		{most/2 - 1, most / 2}, {most / 2, most}, {most - 1, most},
	}
	for _, c := range cases {
		n, places := c[0], c[1]
		a := fresh(t, places, places) // neither a place less nor one more is wanted
		allocs(t, a, n, 1)
		if a.Used() != places || a.Top() != places || !slices.Equal(a.Blocks(), []int{1}) {
			t.Errorf("%d words: %d used, top %d", n, a.Used(), a.Top())
		}
		if l, err := a.Len(1); l != n || err != nil {
			t.Errorf("%d words: Len %d, %v", n, l, err)
		}
		if places == 2 {
			continue
		}
		for _, less := range []*Arena{fresh(t, places-1, places-1), fresh(t, places, places-1)} {
			p, err := less.Alloc(n)
			refused(t, err, api.ErrFull, link{"alloc", n})
			if p != 0 {
				t.Errorf("%d words: %d", n, p)
			}
			isEmpty(t, less)
		}
	}
}

func TestAllocOfWrongNumbers(t *testing.T) {
	small, great := fresh(t, 2, 1), fresh(t, most, most)
	for _, n := range []int{-1, -2, math.MinInt, most + 1, 2 * most, math.MaxInt - 1, math.MaxInt} {
		for _, a := range []*Arena{small, great} { // also where there is no room: ErrArg is named first
			p, err := a.Alloc(n)
			refused(t, err, api.ErrArg, link{"alloc", n})
			if p != 0 {
				t.Errorf("%d: %d", n, p)
			}
			isEmpty(t, a)
		}
	}
	_, err := great.Alloc(most) // may be asked for, but no arena has room for it
	refused(t, err, api.ErrFull, link{"alloc", most})
	isEmpty(t, great)
}

func TestAllocIsZeroEachTime(t *testing.T) {
	a := fresh(t, 64, 64)
	for _, n := range []int{7, 4, 5, 7} { // one class: the same block, cut to fewer words and back
		allocs(t, a, n, 1)
		for i := range n {
			holdsWord(t, a, 1, i, 0)
			set(t, a, 1, i, math.MaxUint64)
		}
		frees(t, a, 1)
	}
}

func TestAllocOfHalvesIsZero(t *testing.T) {
	a := fresh(t, 16, 16)
	allocs(t, a, 15, 1)
	for i := range 15 {
		set(t, a, 1, i, math.MaxUint64)
	}
	frees(t, a, 1)
	for range 8 {
		holdsWord(t, a, alloc(t, a, 1), 0, 0)
	}
}

func TestQuota(t *testing.T) {
	a := fresh(t, 64, 12)
	allocs(t, a, 3, 1, 5)
	allocs(t, a, 1, 9)
	_, err := a.Alloc(2) // 10 and 4
	refused(t, err, api.ErrFull, link{"alloc", 2})
	if a.Used() != 10 || a.Top() != 10 {
		t.Errorf("%d used, top %d", a.Used(), a.Top())
	}
	allocs(t, a, 0, 11) // 10 and 2: the quota is reached
	for _, n := range []int{0, 1, 2} {
		_, err = a.Alloc(n)
		refused(t, err, api.ErrFull, link{"alloc", n})
	}
	frees(t, a, 5)
	allocs(t, a, 1, 13, 15) // what was given back counts no more, though the top went on
	_, err = a.Alloc(0)
	refused(t, err, api.ErrFull, link{"alloc", 0})
	if a.Used() != 12 || a.Top() != 16 {
		t.Errorf("%d used, top %d", a.Used(), a.Top())
	}
}

func TestQuotasThatAreOdd(t *testing.T) {
	one := fresh(t, 2, 1)
	_, err := one.Alloc(0)
	refused(t, err, api.ErrFull, link{"alloc", 0})
	isEmpty(t, one)
	three := fresh(t, 64, 3)
	allocs(t, three, 1, 1)
	_, err = three.Alloc(0)
	refused(t, err, api.ErrFull, link{"alloc", 0})
	frees(t, three, 1)
	_, err = three.Alloc(2)
	refused(t, err, api.ErrFull, link{"alloc", 2})
	allocs(t, three, 0, 1)
}

func TestSizesThatAreNoPowers(t *testing.T) {
	a := fresh(t, 11, 11) // at the top 8 places, then 2, then none; the last place is never used
	allocs(t, a, 5, 1)
	_, err := a.Alloc(2)
	refused(t, err, api.ErrFull, link{"alloc", 2})
	allocs(t, a, 1, 9)
	_, err = a.Alloc(0)
	refused(t, err, api.ErrFull, link{"alloc", 0})
	if a.Used() != 10 || a.Top() != 10 {
		t.Errorf("%d used, top %d", a.Used(), a.Top())
	}
}

func TestTheListComesAheadOfTheTop(t *testing.T) {
	a := fresh(t, 64, 64)
	allocs(t, a, 1, 1, 3, 5, 7, 9)
	frees(t, a, 3, 9, 5)
	allocs(t, a, 0, 5, 9, 3, 11) // the one that was freed last comes first
}

func TestTheTopComesAheadOfACut(t *testing.T) {
	a := fresh(t, 32, 32)
	allocs(t, a, 15, 1)
	frees(t, a, 1)
	allocs(t, a, 7, 17, 25) // while there is room at the top nothing is cut
	allocs(t, a, 7, 1, 9)
}

func TestNoListBelowIsJoined(t *testing.T) {
	a := fresh(t, 4, 4)
	allocs(t, a, 1, 1, 3)
	frees(t, a, 1, 3)
	_, err := a.Alloc(2) // two halves make no whole
	refused(t, err, api.ErrFull, link{"alloc", 2})
	if a.Used() != 0 || a.Top() != 4 {
		t.Errorf("%d used, top %d", a.Used(), a.Top())
	}
	allocs(t, a, 1, 3, 1)
}

func TestACut(t *testing.T) {
	a := fresh(t, 16, 16)
	allocs(t, a, 15, 1)
	frees(t, a, 1)
	allocs(t, a, 1, 1) // 16 places: halves at 8, 4 and 2 are free now
	allocs(t, a, 3, 5)
	allocs(t, a, 7, 9)
	allocs(t, a, 1, 3)
	if a.Used() != 16 || a.Top() != 16 {
		t.Errorf("%d used, top %d", a.Used(), a.Top())
	}
	_, err := a.Alloc(0)
	refused(t, err, api.ErrFull, link{"alloc", 0})
}

func TestTheLeastClassAboveIsCut(t *testing.T) {
	a := fresh(t, 14, 14)
	allocs(t, a, 7, 1)
	allocs(t, a, 3, 9)
	allocs(t, a, 1, 13)
	frees(t, a, 9, 1) // the one of 8 places was freed last, the one of 4 is cut
	allocs(t, a, 1, 9, 11, 1, 3, 5, 7)
}

func TestTheFirstOfTheListIsCut(t *testing.T) {
	a := fresh(t, 12, 12)
	allocs(t, a, 3, 1, 5, 9)
	frees(t, a, 1, 9, 5)
	allocs(t, a, 1, 5, 7, 9, 11, 1, 3)
}

func TestAnUpperHalfIsTheFirstOfItsList(t *testing.T) {
	a := fresh(t, 8, 8)
	allocs(t, a, 7, 1)
	frees(t, a, 1)
	allocs(t, a, 1, 1) // free: 3 (2 places), 5 (4 places)
	allocs(t, a, 3, 5)
	frees(t, a, 1, 5) // free: 1, 3; 5
	allocs(t, a, 1, 1, 3, 5)
	frees(t, a, 1) // free: 1, 7
	allocs(t, a, 1, 1, 7)
}

func TestWhatWasCutIsOfItsNewClass(t *testing.T) {
	a := fresh(t, 8, 8)
	allocs(t, a, 7, 1)
	frees(t, a, 1)
	allocs(t, a, 1, 1)
	frees(t, a, 1)
	_, err := a.Alloc(7)
	refused(t, err, api.ErrFull, link{"alloc", 7})
	allocs(t, a, 2, 5)
	_, err = a.Alloc(2)
	refused(t, err, api.ErrFull, link{"alloc", 2})
	allocs(t, a, 0, 1, 3)
}

func TestARefusedAllocTurnsNothing(t *testing.T) {
	a := fresh(t, 12, 8)
	full := func(n int) {
		t.Helper()
		used, top, blocks := a.Used(), a.Top(), a.Blocks()
		p, err := a.Alloc(n)
		refused(t, err, api.ErrFull, link{"alloc", n})
		if p != 0 || a.Used() != used || a.Top() != top || !slices.Equal(a.Blocks(), blocks) {
			t.Fatalf("Alloc(%d): %d", n, p)
		}
	}
	full(8)
	allocs(t, a, 7, 1) // the top is where it was
	full(3)
	frees(t, a, 1)
	full(8)
	allocs(t, a, 3, 9)
	full(7)            // its list has one, the quota has no room
	allocs(t, a, 1, 1) // so it is cut here
	full(2)
	allocs(t, a, 0, 3)
	full(0)
	frees(t, a, 9, 1)
	full(7)
	allocs(t, a, 2, 9) // all lists are as they were
	allocs(t, a, 1, 1)
	set(t, a, 1, 0, 5)
	full(1)
	holdsWord(t, a, 1, 0, 5)
}

// P3.3

func TestFree(t *testing.T) {
	a := fresh(t, 64, 64)
	allocs(t, a, 5, 1)
	allocs(t, a, 0, 9)
	allocs(t, a, 1, 11)
	frees(t, a, 9)
	if a.Used() != 10 || a.Top() != 12 || !slices.Equal(a.Blocks(), []int{1, 11}) {
		t.Errorf("%d used, top %d, blocks %v", a.Used(), a.Top(), a.Blocks())
	}
	frees(t, a, 11, 1)
	if a.Used() != 0 || a.Top() != 12 || len(a.Blocks()) != 0 {
		t.Errorf("%d used, top %d, blocks %v", a.Used(), a.Top(), a.Blocks())
	}
}

// none asks what an arena says of a block that is not there.
func none(t *testing.T, a *Arena, p int) {
	t.Helper()
	refused(t, a.Free(p), api.ErrNone, link{"free", p})
	for _, i := range []int{math.MinInt, -1, 0, 1, math.MaxInt} { // also of words that are not there: the block is named first
		w, err := a.Get(p, i)
		refused(t, err, api.ErrNone, link{"get", p})
		if w != 0 {
			t.Errorf("Get(%d, %d): %d", p, i, w)
		}
		refused(t, a.Set(p, i, 9), api.ErrNone, link{"set", p})
	}
	n, err := a.Len(p)
	refused(t, err, api.ErrNone, link{"len", p})
	if n != 0 {
		t.Errorf("Len(%d): %d", p, n)
	}
}

func TestPlacesThatAreNoBlocks(t *testing.T) {
	a := fresh(t, 64, 64)
	far := []int{math.MinInt, math.MinInt + 1, -1, 0, 65, 66, most, most + 1, math.MaxInt - 1, math.MaxInt}
	for p := range 66 {
		none(t, a, p)
	}
	allocs(t, a, 7, 1)
	allocs(t, a, 3, 9)
	for i := range 7 { // what is written makes no block of a word, whatever it is
		set(t, a, 1, i, uint64(i))
	}
	for p := range 66 {
		if p != 1 && p != 9 {
			far = append(far, p)
		}
	}
	for _, p := range far {
		none(t, a, p)
	}
	if a.Used() != 12 || a.Top() != 12 || !slices.Equal(a.Blocks(), []int{1, 9}) {
		t.Errorf("%d used, top %d, blocks %v", a.Used(), a.Top(), a.Blocks())
	}
	for i := range 7 {
		holdsWord(t, a, 1, i, uint64(i))
	}
}

func TestBlocksThatWereGivenBack(t *testing.T) {
	a := fresh(t, 16, 16)
	allocs(t, a, 2, 1, 5)
	frees(t, a, 1)
	none(t, a, 1)
	none(t, a, 1)
	allocs(t, a, 3, 1, 9) // it was given back once, and is taken once
	frees(t, a, 1)
	allocs(t, a, 2, 1)
	if a.Used() != 12 {
		t.Errorf("%d used", a.Used())
	}
}

func TestHalvesAreNoBlocksTillTheyAreTaken(t *testing.T) {
	a := fresh(t, 8, 8)
	allocs(t, a, 7, 1)
	frees(t, a, 1)
	allocs(t, a, 0, 1)
	for _, p := range []int{2, 3, 4, 5, 6, 7, 8} {
		none(t, a, p)
	}
	if !slices.Equal(a.Blocks(), []int{1}) {
		t.Errorf("%v", a.Blocks())
	}
}

func TestWordsBehindTheLast(t *testing.T) {
	a := fresh(t, 64, 64)
	for _, n := range []int{0, 1, 2, 3, 4, 5, 7} { // also where the block has more places than were asked for
		p := alloc(t, a, n)
		for i := range n {
			set(t, a, p, i, uint64(10+i))
		}
		for _, i := range []int{math.MinInt, -p, -1, n, n + 1, 8, 64, math.MaxInt - p, math.MaxInt} {
			w, err := a.Get(p, i)
			refused(t, err, api.ErrIndex, link{"get", p}, link{"index", i})
			if w != 0 {
				t.Errorf("Get(%d, %d): %d", p, i, w)
			}
			refused(t, a.Set(p, i, 9), api.ErrIndex, link{"set", p}, link{"index", i})
		}
		for i := range n {
			holdsWord(t, a, p, i, uint64(10+i))
		}
	}
}

func TestTheGreatestBlock(t *testing.T) {
	a := fresh(t, most, most)
	allocs(t, a, most-1, 1)
	holdsWord(t, a, 1, most-2, 0)
	set(t, a, 1, most-2, math.MaxUint64)
	set(t, a, 1, 0, 1)
	holdsWord(t, a, 1, most-2, math.MaxUint64)
	holdsWord(t, a, 1, 0, 1)
	_, err := a.Get(1, most-1)
	refused(t, err, api.ErrIndex, link{"get", 1}, link{"index", most - 1})
	_, err = a.Alloc(0)
	refused(t, err, api.ErrFull, link{"alloc", 0})
	frees(t, a, 1)
	allocs(t, a, 0, 1, 3) // cut through all classes
	for places := 4; places < most; places *= 2 {
		allocs(t, a, places-1, places+1)
	}
	if a.Used() != most {
		t.Errorf("%d used", a.Used())
	}
}

// P3.4

func TestBlocksAreRisingAndNewMemory(t *testing.T) {
	a := fresh(t, 64, 64)
	allocs(t, a, 1, 1, 3, 5, 7)
	frees(t, a, 7, 1, 5)
	allocs(t, a, 1, 5, 1)
	want := []int{1, 3, 5}
	one, two := a.Blocks(), a.Blocks()
	if !slices.Equal(one, want) {
		t.Fatalf("%v", one)
	}
	one[0] = 9
	_ = append(one[:1], 10, 11, 12)
	if !slices.Equal(two, want) || !slices.Equal(a.Blocks(), want) {
		t.Errorf("%v %v", two, a.Blocks())
	}
}

func TestClear(t *testing.T) {
	a := fresh(t, 16, 12)
	allocs(t, a, 1, 1, 3, 5, 7)
	set(t, a, 3, 0, 5)
	frees(t, a, 5, 1)
	a.Clear()
	isEmpty(t, a)
	for p := range 18 {
		none(t, a, p)
	}
	allocs(t, a, 7, 1) // no list is there, and the top begins again
	for i := range 7 {
		holdsWord(t, a, 1, i, 0)
	}
	allocs(t, a, 3, 9)
	_, err := a.Alloc(0) // the quota is what it was
	refused(t, err, api.ErrFull, link{"alloc", 0})
	a.Clear()
	a.Clear()
	isEmpty(t, a)
	_, err = a.Alloc(8) // so is the size
	refused(t, err, api.ErrFull, link{"alloc", 8})
	allocs(t, a, 1, 1)
}

func TestClearGivesZeros(t *testing.T) {
	a := fresh(t, 32, 32)
	for _, n := range []int{31, 3, 15, 31} {
		allocs(t, a, n, 1)
		for i := range n {
			holdsWord(t, a, 1, i, 0)
			set(t, a, 1, i, math.MaxUint64)
		}
		a.Clear()
	}
}
