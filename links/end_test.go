package links_test

import (
	"math"
	"math/rand"
	"slices"
	"testing"

	"troupe/links"
)

// P15.2

// mixed is a net of six, with links and monitors among them.
func mixed(t *testing.T) *links.Net {
	t.Helper()
	n := three(t)
	joins(t, n, 3, 4)
	joins(t, n, -5, 3)
	watches(t, n, 1, 3, 0)
	watches(t, n, 3, 1, 1)
	watches(t, n, 2, 3, 2)
	watches(t, n, 3, 3, 3)
	watches(t, n, 1, 2, 4)
	watches(t, n, 1, 3, 5)
	watches(t, n, 3, 9, 6)
	watches(t, n, 2, 1, 7)
	isLen(t, n, 5, 8)
	return n
}

func TestEnd(t *testing.T) {
	n := mixed(t)
	ends(t, n, 3, []int64{-5, 1, 2, 4}, []int64{0, 2, 3, 5})
	isLen(t, n, 1, 2)
	isGone(t, n, 0, 1, 2, 3, 5, 6)
	isThere(t, n, 4, 1, 2)
	isThere(t, n, 7, 2, 1)
	isLinked(t, n, 1, 2)
	isLinked(t, n, 2, 1)
	isWatched(t, n, 1, 7)
	isWatched(t, n, 2, 4)
	isNobody(t, n, 3, 4, -5, 9)
}

// What one has that ends is gone, and nothing of the others'.
func TestEndOfEach(t *testing.T) {
	for _, c := range []struct {
		one          int64
		linked, refs []int64
		ls, ms       int
		stay         []int64
	}{
		{1, []int64{2, 3}, []int64{1, 7}, 3, 3, []int64{2, 3, 6}},
		{2, []int64{1, 3}, []int64{4}, 3, 5, []int64{0, 1, 3, 5, 6}},
		{3, []int64{-5, 1, 2, 4}, []int64{0, 2, 3, 5}, 1, 2, []int64{4, 7}},
		{4, []int64{3}, nil, 4, 8, []int64{0, 1, 2, 3, 4, 5, 6, 7}},
		{-5, []int64{3}, nil, 4, 8, []int64{0, 1, 2, 3, 4, 5, 6, 7}},
		{9, nil, []int64{6}, 5, 7, []int64{0, 1, 2, 3, 4, 5, 7}},
		{5, nil, nil, 5, 8, []int64{0, 1, 2, 3, 4, 5, 6, 7}},
	} {
		n := mixed(t)
		ends(t, n, c.one, c.linked, c.refs)
		isLen(t, n, c.ls, c.ms)
		for ref := range int64(8) {
			if _, _, ok := n.Watches(ref); ok != slices.Contains(c.stay, ref) {
				t.Errorf("End(%d): the reference %d is there: %t", c.one, ref, ok)
			}
		}
		for _, two := range [][2]int64{{1, 2}, {2, 3}, {1, 3}, {3, 4}, {3, -5}} {
			if slices.Contains(n.Linked(two[0]), two[1]) != (c.one != two[0] && c.one != two[1]) {
				t.Errorf("End(%d): %d are linked: %d", c.one, two, n.Linked(two[0]))
			}
		}
	}
}

func TestEndOfAll(t *testing.T) {
	for seed := range int64(30) {
		n := mixed(t)
		all := []int64{1, 2, 3, 4, -5, 9}
		for _, i := range rand.New(rand.NewSource(seed)).Perm(len(all)) {
			n.End(all[i])
			ends(t, n, all[i], nil, nil)
		}
		isLen(t, n, 0, 0)
		isNobody(t, n, all...)
		isGone(t, n, 0, 1, 2, 3, 4, 5, 6, 7)
		watches(t, n, 1, 2, 8)
	}
}

func TestEndOfOneThatNobodyKnows(t *testing.T) {
	n := mixed(t)
	for _, a := range odd() {
		if !slices.Contains([]int64{1, 2, 3}, a) {
			steady(t, n, func() { ends(t, n, a, nil, nil) }, a)
		}
	}
	steady(t, n, func() { ends(t, n, 0, nil, nil) }) // what its number is a reference of is not its own
	isLen(t, n, 5, 8)
}

// One that just watches: its references are gone, and not told.
func TestEndOfAWatcher(t *testing.T) {
	var n links.Net
	for ref := range int64(5) {
		watches(t, &n, 1, ref%2+2, ref)
	}
	watches(t, &n, 4, 2, 5)
	ends(t, &n, 1, nil, nil)
	isGone(t, &n, 0, 1, 2, 3, 4)
	isWatched(t, &n, 2, 5)
	isWatched(t, &n, 3)
	isLen(t, &n, 0, 1)
	ends(t, &n, 2, nil, []int64{5})
	ends(t, &n, 4, nil, nil)
	isLen(t, &n, 0, 0)
}

func TestEndTellsRising(t *testing.T) {
	for seed := range int64(60) {
		r := rand.New(rand.NewSource(seed))
		all := others(int(seed))
		var n links.Net
		var refs []int64
		for ref, i := range r.Perm(len(all)) {
			joins(t, &n, all[i], 1)
			watches(t, &n, all[i], 1, int64(ref))
			refs = append(refs, int64(ref))
		}
		for range seed / 3 {
			i := r.Intn(len(refs))
			who, _, _ := n.Watches(refs[i])
			leaves(t, &n, refs[i], who)
			refs = slices.Delete(refs, i, i+1)
			b := all[r.Intn(len(all))]
			parts(t, &n, 1, b)
			joins(t, &n, 1, b)
		}
		ends(t, &n, 1, all, refs)
		isLen(t, &n, 0, 0)
		isNobody(t, &n, all...)
	}
}

func TestEndOfAnyNumber(t *testing.T) {
	for i, a := range odd() {
		for _, b := range odd()[i+1:] {
			var n links.Net
			joins(t, &n, a, b)
			watches(t, &n, a, b, 0)
			watches(t, &n, b, a, 1)
			watches(t, &n, a, 77, 2)
			ends(t, &n, a, []int64{b}, []int64{1})
			isNobody(t, &n, b, 77)
			isLen(t, &n, 0, 0)
		}
	}
}

// One that ended is one as any other.
func TestAnewBehindAnEnd(t *testing.T) {
	n := mixed(t)
	ends(t, n, 3, []int64{-5, 1, 2, 4}, []int64{0, 2, 3, 5})
	joins(t, n, 3, 1)
	noJoin(t, n, 1, 3)
	watches(t, n, 3, 1, 8)
	watches(t, n, 1, 3, 9)
	watches(t, n, 3, 3, 10)
	isLinked(t, n, 3, 1)
	isWatched(t, n, 3, 9, 10)
	isWatched(t, n, 1, 7, 8)
	noPart(t, n, 3, 2)
	ends(t, n, 3, []int64{1}, []int64{9, 10})
	isLen(t, n, 1, 2)
	for i := range int64(50) {
		joins(t, n, 3, 1)
		watches(t, n, 1, 3, 11+2*i)
		watches(t, n, 3, 2, 12+2*i)
		ends(t, n, 3, []int64{1}, []int64{11 + 2*i})
	}
	isLen(t, n, 1, 2)
}

// P15.3
func TestBehindAnEndThereIsNothing(t *testing.T) {
	for seed := range int64(40) {
		r := rand.New(rand.NewSource(seed))
		var n links.Net
		var refs int64
		one := func() int64 { return int64(r.Intn(12)) - 5 }
		for range 400 {
			switch r.Intn(10) {
			case 0, 1, 2, 3:
				n.Link(one(), one())
			case 4, 5, 6, 7:
				refs = n.Monitor(one(), one()) + 1
			case 8:
				n.Unlink(one(), one())
			case 9:
				a := one()
				n.End(a)
				isNobody(t, &n, a)
				for b := int64(-5); b < 7; b++ {
					if slices.Contains(n.Linked(b), a) {
						t.Fatalf("%d ended, and %d is linked to it", a, b)
					}
				}
				for ref := range refs {
					if who, whom, ok := n.Watches(ref); ok && (who == a || whom == a) {
						t.Fatalf("%d ended, and %d watches %d", a, who, whom)
					}
				}
			}
			isMirrored(t, &n)
		}
	}
}

// isMirrored asks whether links are the same from both sides, and as many as there are told.
func isMirrored(t *testing.T, n *links.Net) {
	t.Helper()
	sides, watched := 0, 0
	for a := int64(-5); a < 7; a++ {
		for _, b := range n.Linked(a) {
			if !slices.Contains(n.Linked(b), a) {
				t.Fatalf("%d is linked to %d, who is not to it", a, b)
			}
			sides++
		}
		watched += len(n.Watchers(a))
	}
	if ls, ms := n.Len(); 2*ls != sides || ms != watched {
		t.Fatalf("Len: %d, %d, not %d/2, %d", ls, ms, sides, watched)
	}
}

// As many as a net may have to do with, in no more time than for few of them each.
func TestManyLinksAndMonitors(t *testing.T) {
	const many = 1 << 17
	var n links.Net
	for i := range int64(many) {
		if !n.Link(i, math.MinInt64) || !n.Link(i, -1-i) || n.Monitor(i, -1-i) != 2*i || n.Monitor(math.MaxInt64, i) != 2*i+1 {
			t.Fatalf("%d", i)
		}
	}
	isLen(t, &n, 2*many, 2*many)
	for i := range int64(many / 2) {
		if linked, refs := n.End(i); !slices.Equal(linked, []int64{math.MinInt64, -1 - i}) || !slices.Equal(refs, []int64{2*i + 1}) {
			t.Fatalf("End(%d): %d; %d", i, linked, refs)
		}
		if !n.Unlink(math.MinInt64, many-1-i) || n.Demonitor(2*(many-1-i), many-1-i) != nil {
			t.Fatalf("%d", i)
		}
	}
	isLen(t, &n, many/2, many/2)
	ends(t, &n, math.MinInt64, nil, nil)
	ends(t, &n, math.MaxInt64, nil, nil)
	isLen(t, &n, many/2, 0)
}
