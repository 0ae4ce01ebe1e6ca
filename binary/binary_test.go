package binary

import (
	"bytes"
	"math"
	"slices"
	"strings"
	"testing"

	"troupe/api"
)

// The example of the chapter.
func TestExample(t *testing.T) {
	h := fresh(t, 2, 10)
	puts(t, h, "abc", 0)
	noPut(t, h, 8)
	if _, err := h.Put(make([]byte, 8)); err == nil || err.Error() != "put: full" {
		t.Errorf("%v", err)
	}
	drops(t, h, 0)
	puts(t, h, "d", 4096)
	if _, err := h.Bytes(0); err == nil || err.Error() != "bytes: stale" {
		t.Errorf("%v", err)
	}
	wrong(t, h, api.ErrStale, 0)
	isHeap(t, h, 1, 4096)
}

// P5.1

func TestHeapsThatMayBe(t *testing.T) {
	for _, slots := range []int{1, 2, api.MaxHandles - 1, api.MaxHandles} {
		for _, room := range []int{0, 1, 2, api.MaxWords - 1, api.MaxWords} {
			h := fresh(t, slots, room)
			wrong(t, h, api.ErrNone, -1, 0, 1, slots, above)
		}
	}
}

func TestHeapsThatMayNotBe(t *testing.T) {
	cases := []struct{ slots, room, n int }{
		{0, 0, 0}, {-1, 10, -1}, {math.MinInt, 10, math.MinInt},
		{api.MaxHandles + 1, 10, api.MaxHandles + 1}, {2 * api.MaxHandles, 0, 2 * api.MaxHandles}, {math.MaxInt, 10, math.MaxInt},
		{1, -1, -1}, {5, math.MinInt, math.MinInt}, {api.MaxHandles, -1, -1},
		{1, api.MaxWords + 1, api.MaxWords + 1}, {api.MaxHandles, 2 * api.MaxWords, 2 * api.MaxWords}, {1, math.MaxInt, math.MaxInt},
		{0, -1, 0}, {api.MaxHandles + 1, api.MaxWords + 1, api.MaxHandles + 1}, {-7, math.MaxInt, -7}, // wrong slots count first
	}
	for _, c := range cases {
		h, err := New(c.slots, c.room)
		if h != nil {
			t.Errorf("New(%d, %d): a heap", c.slots, c.room)
		}
		refused(t, err, api.ErrArg, "binaries", c.n)
	}
}

// P5.2

func TestSlotsAreGivenInOrder(t *testing.T) {
	h := fresh(t, 4, 100)
	for i, text := range []string{"a", "bb", "", "a"} { // the same bytes twice: two handles
		puts(t, h, text, i)
		holds(t, h, i, 1, text)
	}
	isHeap(t, h, 4, 0, 1, 2, 3)
}

func TestSlotsThatAreUsedUp(t *testing.T) {
	h := fresh(t, 2, 100)
	puts(t, h, "a", 0)
	puts(t, h, "", 1)
	for _, n := range []int{0, 1, 99, 100, 1000} { // a slot for no bytes is a slot
		noPut(t, h, n)
	}
	isHeap(t, h, 1, 0, 1)
	keeps(t, h, 0)
	drops(t, h, 0) // it is held as often as before
	noPut(t, h, 0)
	drops(t, h, 0)
	puts(t, h, "b", above)
	noPut(t, h, 0)
}

func TestOneSlot(t *testing.T) {
	h := fresh(t, 1, 10)
	for g := range 1000 {
		puts(t, h, "0123456789", g*above)
		noPut(t, h, 0)
		drops(t, h, g*above)
	}
	isHeap(t, h, 0)
}

func TestAllSlots(t *testing.T) {
	h := fresh(t, api.MaxHandles, api.MaxHandles)
	var all []int
	for i := range api.MaxHandles {
		puts(t, h, "x", i)
		all = append(all, i)
	}
	isHeap(t, h, api.MaxHandles, all...)
	noPut(t, h, 0)
	last := api.MaxHandles - 1
	drops(t, h, last)
	puts(t, h, "y", last+above)
	all[last] += above
	isHeap(t, h, api.MaxHandles, all...)
	wrong(t, h, api.ErrStale, last)
	wrong(t, h, api.ErrNone, last+2*above, math.MaxInt)
}

func TestBytesThatMayBePut(t *testing.T) {
	for _, room := range []int{0, 1, 10, api.MaxWords - 1, api.MaxWords} {
		h := fresh(t, 9, room)
		noPut(t, h, room+1)
		noPut(t, h, 2*room+1)
		all := string(many(room))
		puts(t, h, all, 0)
		isHeap(t, h, room, 0)
		noPut(t, h, 1)
		puts(t, h, "", 1) // no bytes have room in none
		drops(t, h, 0)
		isHeap(t, h, 0, 1)
		puts(t, h, all[:room/2], above)
		noPut(t, h, room-room/2+1)
		puts(t, h, all[room/2:], 2)
		noPut(t, h, 1)
		holds(t, h, above, 1, all[:room/2])
		holds(t, h, 2, 1, all[room/2:])
		isHeap(t, h, room, above, 1, 2)
	}
}

func TestTheSlotThatWasFreedLastIsFirst(t *testing.T) {
	h := fresh(t, 6, 100)
	for i := range 5 {
		puts(t, h, "x", i)
	}
	drops(t, h, 1, 3, 0)
	puts(t, h, "a", 0+above)
	drops(t, h, 4, 0+above)
	puts(t, h, "b", 0+2*above)
	puts(t, h, "c", 4+above)
	puts(t, h, "d", 3+above)
	puts(t, h, "e", 1+above)
	puts(t, h, "f", 5) // none is free any more: the least that was never given
	isHeap(t, h, 6, 0+2*above, 1+above, 2, 3+above, 4+above, 5)
	noPut(t, h, 0)
}

func TestAFreedSlotComesAheadOfANewOne(t *testing.T) {
	h := fresh(t, 3, 100)
	puts(t, h, "a", 0)
	puts(t, h, "b", 1)
	drops(t, h, 0)
	puts(t, h, "c", above)
	puts(t, h, "d", 2)
	noPut(t, h, 0)
}

func TestARefusedPutTurnsNothing(t *testing.T) {
	h := fresh(t, 3, 5)
	puts(t, h, "aa", 0)
	puts(t, h, "bb", 1)
	drops(t, h, 0)
	noPut(t, h, 4)
	noPut(t, h, math.MaxUint16)
	isHeap(t, h, 2, 1)
	wrong(t, h, api.ErrStale, 0, above)
	wrong(t, h, api.ErrNone, 2)
	puts(t, h, "ccc", above) // the slot that was free is free still, and of the same generation
	noPut(t, h, 1)
	puts(t, h, "", 2)
}

// R3

func TestWhatIsPutIsCopied(t *testing.T) {
	h := fresh(t, 2, 100)
	whole := []byte("abcdef")
	b := whole[:3]
	if handle, err := h.Put(b); handle != 0 || err != nil {
		t.Fatalf("%d, %v", handle, err)
	}
	if string(whole) != "abcdef" { // spare room too
		t.Errorf("%q", whole)
	}
	copy(whole, "turned")
	_ = append(b[:0], "xyz"...)
	holds(t, h, 0, 1, "abc")
	isPart(t, h, 0, 1, 2, []byte("bc"))
}

func TestWhatIsToldIsNewMemory(t *testing.T) {
	h := fresh(t, 2, 100)
	puts(t, h, "abcdef", 0)
	one, _ := h.Bytes(0)
	two, _ := h.Bytes(0)
	part, _ := h.Part(0, 1, 3)
	same, _ := h.Part(0, 0, 6)
	for _, b := range [][]byte{one, part, same} {
		for i := range b[:cap(b)] { // spare room too
			b[:cap(b)][i] = '!'
		}
	}
	if string(two) != "abcdef" {
		t.Errorf("%q", two)
	}
	holds(t, h, 0, 1, "abcdef")
	isPart(t, h, 0, 1, 3, []byte("bcd"))
}

func TestHandlesAreNewMemory(t *testing.T) {
	h := fresh(t, 5, 100)
	for i := range 3 {
		puts(t, h, "x", i)
	}
	one, two := h.Handles(), h.Handles()
	for i := range one[:cap(one)] {
		one[:cap(one)][i] = -5
	}
	if !slices.Equal(two, []int{0, 1, 2}) {
		t.Errorf("%v", two)
	}
	isHeap(t, h, 3, 0, 1, 2)
	puts(t, h, "x", 3)
	isHeap(t, h, 4, 0, 1, 2, 3)
}

func TestNilAndEmptyAreOne(t *testing.T) {
	h := fresh(t, 2, 0)
	for i, b := range [][]byte{nil, {}} {
		if handle, err := h.Put(b); handle != i || err != nil {
			t.Fatalf("%d, %v", handle, err)
		}
		holds(t, h, i, 1, "")
		isPart(t, h, i, 0, 0, nil)
	}
	isHeap(t, h, 0, 0, 1)
}

// P5.3

func TestKeepAndDrop(t *testing.T) {
	h := fresh(t, 2, 10)
	puts(t, h, "abc", 0)
	puts(t, h, "de", 1)
	for n := 2; n <= 500; n++ {
		keeps(t, h, 0)
		holds(t, h, 0, n, "abc")
	}
	isHeap(t, h, 5, 0, 1) // its bytes count once
	for n := 499; n >= 1; n-- {
		drops(t, h, 0)
		holds(t, h, 0, n, "abc")
	}
	keeps(t, h, 0)
	drops(t, h, 0)
	holds(t, h, 0, 1, "abc")
	holds(t, h, 1, 1, "de")
	drops(t, h, 0)
	wrong(t, h, api.ErrStale, 0)
	isHeap(t, h, 2, 1)
	holds(t, h, 1, 1, "de")
}

func TestALaterGenerationBeginsAnew(t *testing.T) {
	h := fresh(t, 1, 10)
	puts(t, h, "abcdefgh", 0)
	keeps(t, h, 0)
	drops(t, h, 0, 0)
	puts(t, h, "xy", above)
	holds(t, h, above, 1, "xy")
	noPart(t, h, above, 0, 3, api.ErrIndex)
	isHeap(t, h, 2, above)
	drops(t, h, above)
	puts(t, h, "", 2*above)
	holds(t, h, 2*above, 1, "")
}

func TestHandlesThatWereNeverGiven(t *testing.T) {
	h := fresh(t, 3, 10)
	puts(t, h, "a", 0)
	puts(t, h, "b", 1)
	drops(t, h, 1)
	puts(t, h, "c", 1+above)
	below := []int{-1, -2, -above, -above + 1, -above + 2, -2 * above, math.MinInt, math.MinInt + 1}
	beyond := []int{3, 4, above - 1, above + 3, 2*above - 1, 100*above + 3, math.MaxInt}
	never := []int{2, above + 2, 2*above + 2}
	later := []int{above, 2 * above, 1 + 2*above, 1 + 3*above, 1 << 40, math.MaxInt - above + 2}
	for _, handles := range [][]int{below, beyond, never, later} {
		wrong(t, h, api.ErrNone, handles...)
	}
	wrong(t, h, api.ErrStale, 1)
	holds(t, h, 0, 1, "a")
	holds(t, h, 1+above, 1, "c")
	isHeap(t, h, 2, 0, 1+above)
	puts(t, h, "d", 2) // it is there from now on
	holds(t, h, 2, 1, "d")
}

func TestGenerationsOfASlotThatIsFree(t *testing.T) {
	h := fresh(t, 2, 10)
	puts(t, h, "a", 0)
	drops(t, h, 0)
	for g := 1; g <= 5; g++ {
		for old := range g {
			wrong(t, h, api.ErrStale, old*above)
		}
		wrong(t, h, api.ErrStale, g*above) // its next one: the slot is free
		wrong(t, h, api.ErrNone, (g+1)*above, (g+2)*above, 1000*above)
		isHeap(t, h, 0)
		puts(t, h, "b", g*above)
		holds(t, h, g*above, 1, "b")
		wrong(t, h, api.ErrStale, (g-1)*above)
		wrong(t, h, api.ErrNone, (g+1)*above)
		drops(t, h, g*above)
	}
}

func TestASlotIsFreedOnce(t *testing.T) {
	h := fresh(t, 2, 10)
	puts(t, h, "aaa", 0)
	drops(t, h, 0)
	for range 3 {
		refused(t, h.Drop(0), api.ErrStale, "drop", 0)
		refused(t, h.Drop(above), api.ErrStale, "drop", above)
		refused(t, h.Keep(above), api.ErrStale, "keep", above)
	}
	isHeap(t, h, 0)
	puts(t, h, "b", above) // and is given once
	puts(t, h, "c", 1)
	noPut(t, h, 0)
}

func TestParts(t *testing.T) {
	const n = 6
	h := fresh(t, 2, 10)
	b := many(n)
	puts(t, h, string(b), 0)
	for from := -2; from <= n+2; from++ {
		for length := -2; length <= n+3; length++ {
			if from < 0 || length < 0 || from+length > n {
				noPart(t, h, 0, from, length, api.ErrIndex)
				continue
			}
			isPart(t, h, 0, from, length, b[from:from+length])
		}
	}
	holds(t, h, 0, 1, string(b))
}

func TestPartsFarBeyond(t *testing.T) {
	h := fresh(t, 2, 10)
	puts(t, h, "abcdef", 0)
	puts(t, h, "", 1)
	far := []int{math.MinInt, math.MinInt + 1, -1, 7, api.MaxWords, math.MaxInt - 6, math.MaxInt - 1, math.MaxInt}
	for _, handle := range []int{0, 1} {
		for _, one := range far {
			noPart(t, h, handle, one, 0, api.ErrIndex)
			noPart(t, h, handle, 0, one, api.ErrIndex)
			for _, two := range far { // also where their sum is none of int
				noPart(t, h, handle, one, two, api.ErrIndex)
			}
		}
	}
	for from := range 7 {
		for _, n := range []int{math.MaxInt - 7, math.MaxInt - from, math.MaxInt} {
			noPart(t, h, 0, from, n, api.ErrIndex)
		}
	}
	isPart(t, h, 0, 6, 0, nil)
	isPart(t, h, 1, 0, 0, nil)
	noPart(t, h, 1, 0, 1, api.ErrIndex)
	noPart(t, h, 1, 1, 0, api.ErrIndex)
}

func TestPartsOfTheGreatest(t *testing.T) {
	h := fresh(t, 1, api.MaxWords)
	b := many(api.MaxWords)
	puts(t, h, string(b), 0)
	isPart(t, h, 0, 0, api.MaxWords, b)
	isPart(t, h, 0, 1, api.MaxWords-1, b[1:])
	isPart(t, h, 0, api.MaxWords-1, 1, b[api.MaxWords-1:])
	isPart(t, h, 0, api.MaxWords, 0, nil)
	noPart(t, h, 0, 1, api.MaxWords, api.ErrIndex)
	noPart(t, h, 0, api.MaxWords, 1, api.ErrIndex)
	noPart(t, h, 0, 0, api.MaxWords+1, api.ErrIndex)
}

func TestBytesAreWhateverTheySay(t *testing.T) {
	h := fresh(t, 3, 1000)
	var all []byte
	for i := range 256 {
		all = append(all, byte(i))
	}
	puts(t, h, string(all), 0)
	puts(t, h, "\x00", 1)
	holds(t, h, 0, 1, string(all))
	holds(t, h, 1, 1, "\x00")
	isPart(t, h, 0, 127, 2, []byte{127, 128})
}

func TestAWrongCallTurnsNothing(t *testing.T) {
	h := fresh(t, 3, 10)
	puts(t, h, "abc", 0)
	puts(t, h, "d", 1)
	keeps(t, h, 0)
	drops(t, h, 1)
	wrong(t, h, api.ErrStale, 1, 1+above)
	wrong(t, h, api.ErrNone, -1, 2, above, 1+2*above, 3)
	noPart(t, h, 0, 2, 2, api.ErrIndex)
	holds(t, h, 0, 2, "abc")
	isHeap(t, h, 3, 0)
	puts(t, h, "e", 1+above)
	puts(t, h, "f", 2)
	drops(t, h, 0)
	holds(t, h, 0, 1, "abc")
}

// P5.4

func TestUsedAndHandles(t *testing.T) {
	h := fresh(t, 5, 100)
	lengths := []int{0, 7, 1, 20}
	used := 0
	for i, n := range lengths {
		puts(t, h, strings.Repeat("x", n), i)
		used += n
	}
	isHeap(t, h, used, 0, 1, 2, 3)
	drops(t, h, 1)
	isHeap(t, h, 21, 0, 2, 3)
	drops(t, h, 3)
	isHeap(t, h, 1, 0, 2)
	puts(t, h, "yy", 3+above)
	puts(t, h, "yyy", 1+above) // by slot, though its handle is above that of slot 2
	isHeap(t, h, 6, 0, 1+above, 2, 3+above)
	drops(t, h, 0)
	puts(t, h, "", above)
	drops(t, h, above)
	puts(t, h, "z", 2*above) // the greatest handle stands first
	isHeap(t, h, 7, 2*above, 1+above, 2, 3+above)
	drops(t, h, 2, 3+above, 1+above, 2*above)
	isHeap(t, h, 0)
}

// R4

func TestTwoHeapsHaveNothingInCommon(t *testing.T) {
	a, b := fresh(t, 2, 10), fresh(t, 3, 4)
	puts(t, a, "aaa", 0)
	isHeap(t, b, 0)
	wrong(t, b, api.ErrNone, 0)
	puts(t, b, "bb", 0)
	keeps(t, b, 0)
	puts(t, a, "aaaa", 1)
	drops(t, a, 0)
	holds(t, b, 0, 2, "bb")
	puts(t, b, "c", 1)
	puts(t, a, "d", above)
	puts(t, b, "", 2)
	noPut(t, a, 0)
	noPut(t, b, 0)
	drops(t, b, 0, 0)
	wrong(t, b, api.ErrStale, 0)
	holds(t, a, above, 1, "d")
	isHeap(t, a, 5, above, 1)
	isHeap(t, b, 1, 1, 2)
}

func TestTheSameBytesInTwoHeaps(t *testing.T) {
	a, b := fresh(t, 2, 10), fresh(t, 2, 10)
	text := []byte("same")
	for _, h := range []*Heap{a, b} {
		if handle, err := h.Put(text); handle != 0 || err != nil {
			t.Fatalf("%d, %v", handle, err)
		}
	}
	told, _ := a.Bytes(0)
	told[0] = '!'
	if b, err := b.Bytes(0); !bytes.Equal(b, text) || err != nil {
		t.Errorf("%q, %v", b, err)
	}
	drops(t, a, 0)
	holds(t, b, 0, 1, "same")
}
