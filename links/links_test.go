package links_test

import (
	"math"
	"math/rand"
	"slices"
	"testing"

	"troupe/links"
)

// The example of the chapter.
func TestExample(t *testing.T) {
	var n links.Net
	if !n.Link(1, 2) || n.Link(2, 1) {
		t.Error("Link")
	}
	if ref := n.Monitor(3, 1); ref != 0 {
		t.Errorf("Monitor: %d", ref)
	}
	linked, refs := n.End(1)
	if !slices.Equal(linked, []int64{2}) || !slices.Equal(refs, []int64{0}) {
		t.Errorf("End: %d; %d", linked, refs)
	}
	isLen(t, &n, 0, 0)
}

// P15.1

func TestANetOfNobody(t *testing.T) {
	for _, n := range []*links.Net{{}, new(links.Net)} {
		isLen(t, n, 0, 0)
		isNobody(t, n, odd()...)
		isGone(t, n, odd()...)
		for _, a := range odd() {
			ends(t, n, a, nil, nil)
			noPart(t, n, a, a+1)
		}
		isLen(t, n, 0, 0)
		watches(t, n, 1, 2, 0)
	}
}

// Each call is the first of a net.
func TestTheFirstCall(t *testing.T) {
	joins(t, &links.Net{}, 1, 2)
	noJoin(t, &links.Net{}, 1, 1)
	noPart(t, &links.Net{}, 1, 2)
	noPart(t, &links.Net{}, 1, 1)
	watches(t, &links.Net{}, 1, 2, 0)
	isGone(t, &links.Net{}, 0)
	isNobody(t, &links.Net{}, 0)
	ends(t, &links.Net{}, 0, nil, nil)
}

func TestLinksOfAnyNumbers(t *testing.T) {
	for i, a := range odd() {
		for _, b := range odd()[i+1:] {
			var n links.Net
			joins(t, &n, a, b)
			isLinked(t, &n, a, b)
			isLinked(t, &n, b, a)
			noJoin(t, &n, a, b)
			noJoin(t, &n, b, a)
			isLen(t, &n, 1, 0)
			parts(t, &n, b, a)
			isNobody(t, &n, a, b)
			noPart(t, &n, a, b)
			noPart(t, &n, b, a)
			joins(t, &n, b, a)
			parts(t, &n, b, a)
			joins(t, &n, b, a)
			parts(t, &n, a, b)
			isLen(t, &n, 0, 0)
		}
	}
}

func TestNobodyIsLinkedToItself(t *testing.T) {
	var n links.Net
	for _, a := range odd() {
		noJoin(t, &n, a, a)
		noPart(t, &n, a, a)
		isNobody(t, &n, a)
	}
	isLen(t, &n, 0, 0)
	for _, a := range odd()[1:] {
		joins(t, &n, a, 0)
		noJoin(t, &n, a, a)
		noPart(t, &n, a, a)
		isLinked(t, &n, a, 0)
	}
}

// three is a net in which all three are linked.
func three(t *testing.T) *links.Net {
	t.Helper()
	var n links.Net
	joins(t, &n, 3, 1)
	joins(t, &n, 1, 2)
	joins(t, &n, 2, 3)
	return &n
}

func TestALinkIsOfTwoAlone(t *testing.T) {
	n := three(t)
	noJoin(t, n, 2, 1)
	parts(t, n, 2, 1)
	isLinked(t, n, 1, 3)
	isLinked(t, n, 2, 3)
	isLinked(t, n, 3, 1, 2)
	noPart(t, n, 1, 2)
	noPart(t, n, 3, 4)
	noPart(t, n, 4, 5)
	joins(t, n, 1, 2)
	isLinked(t, n, 1, 2, 3)
	isLen(t, n, 3, 0)
}

// Those whose numbers come to the same with others' are not they.
func TestLinksOfNumbersThatAreNear(t *testing.T) {
	var n links.Net
	joins(t, &n, 1, 2)
	for _, c := range [][2]int64{{1, 3}, {2, 3}, {-1, 2}, {1, -2}, {-1, -2}, {1 + 1<<32, 2}, {1, 2 + 1<<32}, {1 << 32, 2}, {0, 3}, {12, 0}, {1 + math.MinInt64, 2}} {
		noPart(t, &n, c[0], c[1])
		noPart(t, &n, c[1], c[0])
	}
	isLinked(t, &n, 1, 2)
	isLen(t, &n, 1, 0)
}

// others are numbers of both signs, rising.
func others(count int) []int64 {
	all := []int64{math.MinInt64, math.MinInt64 + 1, -1 << 40, -1 << 32, math.MaxInt64 - 1, math.MaxInt64, 1 << 33}
	for i := range int64(count) {
		all = append(all, (i-int64(count)/2)*3)
	}
	slices.Sort(all)
	return all
}

func TestLinkedAreRising(t *testing.T) {
	for seed := range int64(60) {
		r := rand.New(rand.NewSource(seed))
		all := others(int(seed))
		var n links.Net
		const a = 1
		for _, i := range r.Perm(len(all)) {
			if r.Intn(2) == 0 {
				joins(t, &n, a, all[i])
			} else {
				joins(t, &n, all[i], a)
			}
		}
		isLinked(t, &n, a, all...)
		isLen(t, &n, len(all), 0)
		left := slices.Clone(all)
		for len(left) > 0 {
			i := r.Intn(len(left))
			if r.Intn(2) == 0 {
				parts(t, &n, a, left[i])
			} else {
				parts(t, &n, left[i], a)
			}
			left = slices.Delete(left, i, i+1)
			isLinked(t, &n, a, left...)
			if b := all[r.Intn(len(all))]; r.Intn(4) == 0 && !slices.Contains(left, b) {
				joins(t, &n, b, a)
				left = append(left, b)
				slices.Sort(left)
				isLinked(t, &n, a, left...)
			}
		}
		isLen(t, &n, 0, 0)
	}
}

func TestReferencesAreGivenInOrder(t *testing.T) {
	var n links.Net
	next := int64(0)
	for _, who := range odd() {
		for _, whom := range odd() {
			watches(t, &n, who, whom, next)
			next++
		}
	}
	isLen(t, &n, 0, int(next))
}

// What was given once is not given again, whichever way it went.
func TestNoReferenceIsGivenTwice(t *testing.T) {
	var n links.Net
	watches(t, &n, 1, 2, 0)
	leaves(t, &n, 0, 1)
	watches(t, &n, 1, 2, 1)
	watches(t, &n, 2, 1, 2)
	ends(t, &n, 1, nil, []int64{2})
	isLen(t, &n, 0, 0)
	watches(t, &n, 1, 2, 3)
	ends(t, &n, 2, nil, []int64{3})
	watches(t, &n, 1, 2, 4)
	noJoin(t, &n, 1, 1)
	joins(t, &n, 1, 2)
	isGone(t, &n, 0, 1, 2, 3, 5, -1)
	notOnes(t, &n, 4, 2)
	watches(t, &n, 1, 1, 5)
	isGone(t, &n, 0, 1, 2, 3, 6)
	for ref := int64(6); ref < 1000; ref++ {
		watches(t, &n, ref%5, ref%7, ref)
		if ref%3 == 0 {
			leaves(t, &n, ref, ref%5)
		}
		if ref%11 == 0 {
			n.End(ref % 4)
		}
	}
}

func TestAPairMayHaveManyMonitors(t *testing.T) {
	var n links.Net
	for ref := range int64(10) {
		watches(t, &n, 1, 2, ref)
	}
	isWatched(t, &n, 2, 0, 1, 2, 3, 4, 5, 6, 7, 8, 9)
	isWatched(t, &n, 1)
	isLinked(t, &n, 1)
	leaves(t, &n, 4, 1)
	leaves(t, &n, 0, 1)
	leaves(t, &n, 9, 1)
	isWatched(t, &n, 2, 1, 2, 3, 5, 6, 7, 8)
	watches(t, &n, 1, 2, 10)
	isWatched(t, &n, 2, 1, 2, 3, 5, 6, 7, 8, 10)
	isLen(t, &n, 0, 8)
}

// A monitor is no link, a link no monitor, and a monitor is of one side alone.
func TestMonitorsAndLinksAreApart(t *testing.T) {
	var n links.Net
	watches(t, &n, 1, 2, 0)
	isNobody(t, &n, 1)
	isLinked(t, &n, 2)
	noPart(t, &n, 1, 2)
	joins(t, &n, 2, 1)
	isWatched(t, &n, 1)
	isWatched(t, &n, 2, 0)
	leaves(t, &n, 0, 1)
	isLinked(t, &n, 1, 2)
	watches(t, &n, 2, 1, 1)
	parts(t, &n, 1, 2)
	isThere(t, &n, 1, 2, 1)
	isWatched(t, &n, 2)
	isLen(t, &n, 0, 1)
}

// Numbers of ones and references are not one another's, where they come to the same.
func TestReferencesAreNotOnes(t *testing.T) {
	var n links.Net
	watches(t, &n, 5, 6, 0)
	watches(t, &n, 0, 1, 1)
	watches(t, &n, 1, 0, 2)
	joins(t, &n, 0, 1)
	joins(t, &n, 0, 2)
	noPart(t, &n, 5, 0)
	noPart(t, &n, 6, 0)
	isWatched(t, &n, 0, 2)
	isWatched(t, &n, 1, 1)
	isWatched(t, &n, 6, 0)
	leaves(t, &n, 1, 0)
	isLinked(t, &n, 0, 1, 2)
	parts(t, &n, 0, 2)
	isThere(t, &n, 2, 1, 0)
	isThere(t, &n, 0, 5, 6)
	ends(t, &n, 0, []int64{1}, []int64{2})
	isThere(t, &n, 0, 5, 6)
}

func TestOneThatWatchesItself(t *testing.T) {
	for _, a := range odd() {
		var n links.Net
		watches(t, &n, a, a, 0)
		watches(t, &n, a, a, 1)
		watches(t, &n, a, a, 2)
		isWatched(t, &n, a, 0, 1, 2)
		isLinked(t, &n, a)
		notOnes(t, &n, 1, a+1)
		leaves(t, &n, 1, a)
		isWatched(t, &n, a, 0, 2)
		ends(t, &n, a, nil, []int64{0, 2})
		isLen(t, &n, 0, 0)
		watches(t, &n, a, a, 3)
		isWatched(t, &n, a, 3)
	}
}

func TestDemonitorIsTheWatchersOwn(t *testing.T) {
	for _, who := range odd() {
		var n links.Net
		watches(t, &n, 77, 78, 0)
		watches(t, &n, who, 79, 1)
		watches(t, &n, who, 79, 2)
		for _, other := range append(odd(), 77, 78, 79, who+1, who-1, who^1<<32, -who) {
			if other != who {
				notOnes(t, &n, 1, other)
			}
		}
		isThere(t, &n, 1, who, 79)
		leaves(t, &n, 1, who)
		isWatched(t, &n, 79, 2)
		isThere(t, &n, 0, 77, 78)
		isGone(t, &n, 1)
	}
}

func TestReferencesThatAreNotThere(t *testing.T) {
	var n links.Net
	isGone(t, &n, odd()...)
	watches(t, &n, 0, 1, 0)
	watches(t, &n, 1, 0, 1)
	watches(t, &n, 2, 3, 2)
	watches(t, &n, 3, 2, 3)
	isGone(t, &n, -1, -2, 4, 5, 1<<31, 1<<32, 1<<31+1, 1<<32+2, 3-1<<31, math.MinInt64, math.MaxInt64, math.MinInt64+1)
	leaves(t, &n, 1, 1)
	ends(t, &n, 2, nil, []int64{3}) // the watched of 3, the watcher of 2
	isGone(t, &n, 1, 2, 3, 4)
	isThere(t, &n, 0, 0, 1)
	leaves(t, &n, 0, 0)
	isGone(t, &n, 0, 1, 2, 3, 4)
	isLen(t, &n, 0, 0)
}

// A Fault's number is the reference's lowest 31 bits.
func TestFaultsOfGreatReferences(t *testing.T) {
	var n links.Net
	for _, c := range []struct {
		ref int64
		n   int
	}{{0, 0}, {5, 5}, {1<<31 - 1, 1<<31 - 1}, {1 << 31, 0}, {1<<31 + 9, 9}, {1<<32 - 1, 1<<31 - 1}, {1<<40 + 1<<30, 1 << 30}, {-1, 1<<31 - 1}, {-2, 1<<31 - 2}, {-1 << 31, 0}, {math.MaxInt64, 1<<31 - 1}, {math.MinInt64, 0}, {math.MinInt64 + 3, 3}} {
		refused(t, n.Demonitor(c.ref, 0), 3, int64(c.n))
		refused(t, n.Demonitor(c.ref, 0), 3, c.ref)
	}
}

func TestWatchersAreRising(t *testing.T) {
	for seed := range int64(60) {
		r := rand.New(rand.NewSource(seed))
		var n links.Net
		var there []int64
		for ref := range 3 * seed {
			watches(t, &n, int64(r.Intn(3)), ref%3, ref)
			if ref%3 == 1 {
				there = append(there, ref)
			}
		}
		for range seed {
			isWatched(t, &n, 1, there...)
			i := r.Intn(len(there))
			who, _, _ := n.Watches(there[i])
			leaves(t, &n, there[i], who)
			there = slices.Delete(there, i, i+1)
		}
		isWatched(t, &n, 1)
		isLen(t, &n, 0, int(2*seed))
	}
}

func TestWatchersOfSome(t *testing.T) {
	var n links.Net
	for ref := range int64(6) {
		watches(t, &n, ref, 9, 2*ref) // many watch 9
		watches(t, &n, 9, ref, 2*ref+1)
	}
	watches(t, &n, 3, 8, 12)
	watches(t, &n, 3, 8, 13)
	isWatched(t, &n, 9, 0, 2, 4, 6, 8, 10)
	isWatched(t, &n, 8, 12, 13)
	isWatched(t, &n, 7)
	for one := range int64(6) {
		isWatched(t, &n, one, 2*one+1)
	}
	isWatched(t, &n, -9)
}
