package links_test

import (
	"errors"
	"math"
	"slices"
	"strconv"
	"strings"
	"testing"

	"troupe/api"
	"troupe/links"
)

// odd are numbers of which some are not a process's.
func odd() []int64 {
	all := []int64{0, 1, 2, 3, 5, 63, 64, 65, math.MaxInt64, math.MaxInt64 - 1, math.MinInt64, math.MinInt64 + 1}
	for _, bit := range []int{8, 16, 31, 32, 33, 62} {
		n := int64(1) << bit
		all = append(all, n, n-1, n+1, -n, -n-1)
	}
	return append(all, -1, -2, -64)
}

// number is a number as a text.
func number(n int64) string { return strconv.FormatInt(n, 10) }

// numbers are numbers as a text.
func numbers(ns []int64) string {
	var texts []string
	for _, n := range ns {
		texts = append(texts, number(n))
	}
	return "[" + strings.Join(texts, " ") + "]"
}

// whole is all that a net says of some ones, of those that it tells of them, and of some references, as a text.
func whole(n *links.Net, ones, refs []int64) string {
	said := ""
	for _, one := range ones {
		said += number(one) + numbers(n.Linked(one)) + numbers(n.Watchers(one)) + " "
	}
	for _, ref := range refs {
		who, whom, ok := n.Watches(ref)
		said += number(who) + ">" + number(whom) + strconv.FormatBool(ok) + " "
	}
	l, m := n.Len()
	return said + strconv.Itoa(l) + " " + strconv.Itoa(m)
}

// steady does what must turn nothing, and asks so.
func steady(t *testing.T, n *links.Net, what func(), ones ...int64) {
	t.Helper()
	ones = append(ones, 0, 1, 2, 3, 4, 5, 6, 7, 8, 9, -1, -5, math.MinInt64, math.MaxInt64)
	var refs []int64
	for ref := range int64(20) {
		refs = append(refs, ref-3)
	}
	before := whole(n, ones, refs)
	what()
	if after := whole(n, ones, refs); after != before {
		t.Fatalf("turned: %s, and was %s", after, before)
	}
}

// isLen asks twice how many there are.
func isLen(t *testing.T, n *links.Net, ls, ms int) {
	t.Helper()
	for range 2 {
		if l, m := n.Len(); l != ls || m != ms {
			t.Fatalf("Len: %d, %d, not %d, %d", l, m, ls, ms)
		}
	}
}

// isLinked asks twice to whom one is linked, and those too.
func isLinked(t *testing.T, n *links.Net, a int64, others ...int64) {
	t.Helper()
	for range 2 {
		if got := n.Linked(a); !slices.Equal(got, others) {
			t.Fatalf("Linked(%d): %d, not %d", a, got, others)
		}
	}
	for _, b := range others {
		if !slices.Contains(n.Linked(b), a) {
			t.Fatalf("Linked(%d): %d, without %d", b, n.Linked(b), a)
		}
	}
}

// isWatched asks twice for the references to one, and for whose they are.
func isWatched(t *testing.T, n *links.Net, whom int64, refs ...int64) {
	t.Helper()
	for range 2 {
		if got := n.Watchers(whom); !slices.Equal(got, refs) {
			t.Fatalf("Watchers(%d): %d, not %d", whom, got, refs)
		}
	}
	for _, ref := range refs {
		if _, y, ok := n.Watches(ref); y != whom || !ok {
			t.Fatalf("Watches(%d): of %d, not of %d: %t", ref, y, whom, ok)
		}
	}
}

// isThere asks whose a reference is.
func isThere(t *testing.T, n *links.Net, ref, who, whom int64) {
	t.Helper()
	for range 2 {
		if x, y, ok := n.Watches(ref); x != who || y != whom || !ok {
			t.Fatalf("Watches(%d): %d of %d, %t, not %d of %d", ref, x, y, ok, who, whom)
		}
	}
	if !slices.Contains(n.Watchers(whom), ref) {
		t.Fatalf("Watchers(%d): %d, without %d", whom, n.Watchers(whom), ref)
	}
}

// isGone asks for references that are not there; nothing is turned by it.
func isGone(t *testing.T, n *links.Net, refs ...int64) {
	t.Helper()
	for _, ref := range refs {
		if x, y, ok := n.Watches(ref); x != 0 || y != 0 || ok {
			t.Fatalf("Watches(%d): %d of %d, %t", ref, x, y, ok)
		}
		for _, who := range []int64{0, 1, ref, -1, math.MaxInt64} {
			steady(t, n, func() { refused(t, n.Demonitor(ref, who), api.ErrNone, ref) }, who)
		}
	}
}

// isNobody asks for ones that nobody is linked to, and nobody watches.
func isNobody(t *testing.T, n *links.Net, ones ...int64) {
	t.Helper()
	for _, one := range ones {
		isLinked(t, n, one)
		isWatched(t, n, one)
	}
}

// joins links two that are not linked.
func joins(t *testing.T, n *links.Net, a, b int64) {
	t.Helper()
	ls, ms := n.Len()
	if !n.Link(a, b) {
		t.Fatalf("Link(%d, %d): no", a, b)
	}
	isLen(t, n, ls+1, ms)
	isLinked(t, n, a, n.Linked(a)...)
	if !slices.Contains(n.Linked(a), b) || !slices.Contains(n.Linked(b), a) {
		t.Fatalf("Linked(%d): %d, Linked(%d): %d", a, n.Linked(a), b, n.Linked(b))
	}
}

// noJoin links two that are linked already, or one to itself.
func noJoin(t *testing.T, n *links.Net, a, b int64) {
	t.Helper()
	steady(t, n, func() {
		if n.Link(a, b) {
			t.Fatalf("Link(%d, %d): yes", a, b)
		}
	}, a, b)
}

// parts takes a link back.
func parts(t *testing.T, n *links.Net, a, b int64) {
	t.Helper()
	ls, ms := n.Len()
	if !n.Unlink(a, b) {
		t.Fatalf("Unlink(%d, %d): no", a, b)
	}
	isLen(t, n, ls-1, ms)
	if slices.Contains(n.Linked(a), b) || slices.Contains(n.Linked(b), a) {
		t.Fatalf("Linked(%d): %d, Linked(%d): %d", a, n.Linked(a), b, n.Linked(b))
	}
}

// noPart takes a link back that is not there.
func noPart(t *testing.T, n *links.Net, a, b int64) {
	t.Helper()
	steady(t, n, func() {
		if n.Unlink(a, b) {
			t.Fatalf("Unlink(%d, %d): yes", a, b)
		}
	}, a, b)
}

// watches lets one watch another; this must be the reference.
func watches(t *testing.T, n *links.Net, who, whom, ref int64) {
	t.Helper()
	ls, ms := n.Len()
	if got := n.Monitor(who, whom); got != ref {
		t.Fatalf("Monitor(%d, %d): %d, not %d", who, whom, got, ref)
	}
	isLen(t, n, ls, ms+1)
	isThere(t, n, ref, who, whom)
}

// leaves takes a reference back that is there.
func leaves(t *testing.T, n *links.Net, ref, who int64) {
	t.Helper()
	ls, ms := n.Len()
	_, whom, _ := n.Watches(ref)
	if err := n.Demonitor(ref, who); err != nil {
		t.Fatalf("Demonitor(%d, %d): %v", ref, who, err)
	}
	isLen(t, n, ls, ms-1)
	isGone(t, n, ref)
	if slices.Contains(n.Watchers(whom), ref) {
		t.Fatalf("Watchers(%d): %d, with %d", whom, n.Watchers(whom), ref)
	}
}

// notOnes takes a reference back that is another's.
func notOnes(t *testing.T, n *links.Net, ref int64, ones ...int64) {
	t.Helper()
	for _, who := range ones {
		steady(t, n, func() { refused(t, n.Demonitor(ref, who), api.ErrArg, ref) }, who)
	}
}

// ends lets one end, and asks what it says, what is gone, and that the same once more says nothing.
func ends(t *testing.T, n *links.Net, a int64, linked, refs []int64) {
	t.Helper()
	gotLinked, gotRefs := n.End(a)
	if !slices.Equal(gotLinked, linked) || !slices.Equal(gotRefs, refs) {
		t.Fatalf("End(%d): %d; %d, not %d; %d", a, gotLinked, gotRefs, linked, refs)
	}
	isNobody(t, n, a)
	isGone(t, n, refs...)
	for _, b := range linked {
		if slices.Contains(n.Linked(b), a) {
			t.Fatalf("End(%d): Linked(%d): %d", a, b, n.Linked(b))
		}
	}
	steady(t, n, func() {
		if linked, refs := n.End(a); len(linked) > 0 || len(refs) > 0 {
			t.Fatalf("End(%d) again: %d; %d", a, linked, refs)
		}
	}, a)
}

// refused asks for a chain of one Fault around a kind.
func refused(t *testing.T, err error, kind api.Errno, ref int64) {
	t.Helper()
	f, ok := err.(*api.Fault)
	if !ok || f.Op != "demonitor" || f.N != int(uint64(ref)%(1<<31)) || f.Err != error(kind) || !errors.Is(err, kind) {
		t.Fatalf("%v: not a Fault \"demonitor\" of %d around %v", err, uint64(ref)%(1<<31), kind)
	}
}
