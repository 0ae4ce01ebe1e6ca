package word

import (
	"math"
	"testing"

	"troupe/api"
)

// noMark asks of a word that is no mark.
func noMark(t *testing.T, w uint64) {
	t.Helper()
	if kind, n, ok := Marked(w); kind != 0 || n != 0 || ok {
		t.Errorf("Marked(%#x): %d, %d, %v", w, kind, n, ok)
	}
}

// P4.3

func TestMarksThatTheChaptersTell(t *testing.T) {
	cases := []struct {
		kind, n int
		want    uint64
	}{
		{1, 3, 207}, {1, 0, 15}, {2, 2, 151}, {3, 0, 31}, {4, 1, 103},
		{1, api.MaxWords, 1<<26 + 15}, {2, api.MaxWords, 1<<26 + 23}, {3, api.MaxWords, 1<<26 + 31}, {4, api.MaxWords, 1<<26 + 39},
		{4, api.MaxWords - 1, 1<<26 - 64 + 39},
	}
	for _, c := range cases {
		if w, err := Mark(c.kind, c.n); w != c.want || err != nil {
			t.Errorf("Mark(%d, %d): %d, not %d: %v", c.kind, c.n, w, c.want, err)
		}
	}
}

func TestMarksAndBack(t *testing.T) {
	for kind := 1; kind <= 4; kind++ {
		for _, n := range []int{0, 1, 2, 3, 63, 64, 1 << 10, api.MaxWords - 1, api.MaxWords} {
			w, err := Mark(kind, n)
			if want := 7 + 8*uint64(kind) + 64*uint64(n); w != want || err != nil {
				t.Errorf("Mark(%d, %d): %d, not %d: %v", kind, n, w, want, err)
			}
			if k, m, ok := Marked(w); k != kind || m != n || !ok {
				t.Errorf("Marked(%d): %d, %d, %v", w, k, m, ok)
			}
		}
	}
}

func TestMarksThatMayNotBe(t *testing.T) {
	wrong := func(kind, n int) {
		t.Helper()
		w, err := Mark(kind, n)
		if w != 0 {
			t.Errorf("Mark(%d, %d): %d", kind, n, w)
		}
		refused(t, err, api.ErrArg, link{"mark", kind})
	}
	far := []int{math.MinInt, math.MinInt + 1, math.MaxInt - 1, math.MaxInt}
	for _, kind := range append(far, -8, -1, 0, 5, 6, 7, 8, 9, 1+8, 4+64) {
		for _, n := range append(far, 0, 1, -1, api.MaxWords, api.MaxWords+1) {
			wrong(kind, n)
		}
	}
	for kind := 1; kind <= 4; kind++ {
		for _, n := range append(far, -64, -1, api.MaxWords+1, 2*api.MaxWords, 1<<58, 1<<58+1) {
			wrong(kind, n)
		}
	}
}

func TestWordsThatAreNoMarks(t *testing.T) {
	for tag := range uint64(7) {
		for _, rest := range []uint64{0, 1, 2, 3, 4, 1 + 8*3, 4 + 8*api.MaxWords, 1<<61 - 1} {
			noMark(t, tag+8*rest)
		}
	}
	for _, kind := range []uint64{0, 5, 6, 7} {
		for _, n := range []uint64{0, 1, 3, api.MaxWords, api.MaxWords + 1, 1<<58 - 1} {
			noMark(t, 7+8*kind+64*n)
		}
	}
	for kind := range uint64(8) {
		for _, n := range []uint64{api.MaxWords + 1, 2 * api.MaxWords, 1 << 32, 1 << 57, 1<<57 + 1, 1<<58 - 1} {
			noMark(t, 7+8*kind+64*n)
		}
	}
}
