package copy

import (
	"slices"

	"troupe/heap"
	"troupe/word"
)

// What a word's lowest bits say that it is, as far as a copy goes by it.
const (
	width = 3 // how many the lowest bits are
	low   = 1<<width - 1

	blockTag  = 5
	handleTag = 6
)

// The form of a binary's block.
const (
	binaryKind   = 4
	binaryLooked = 1
	binaryWords  = 4
)

// going is a go that is under way. All blocks are found before the first one is taken, and all are taken before anything is written or kept: so a refusal has little to take back, and a heap may be copied into itself.
type going struct {
	to, from *heap.Heap
	met      []int       // the blocks that are reached, in the order in which they were first met
	where    map[int]int // for each of them, where it goes
}

// walk meets all blocks that are reached from words.
func (g *going) walk(ws []uint64) error {
	for _, w := range ws {
		if g.meet(w) {
			continue
		}
		if _, err := Size(g.from, w); err != nil { // nothing hangs from such a word, so that this is quick
			return err
		}
	}
	for at := 0; at < len(g.met); at++ { // it grows in the meantime
		p := g.met[at]
		for i := range g.looked(p) {
			g.meet(g.read(p, 1+i))
		}
	}
	return nil
}

// meet notes the block that a word names, and tells whether it names one.
func (g *going) meet(w uint64) bool {
	p := int(w >> width)
	if w&low != blockTag || g.words(p) < 0 {
		return false
	}
	if _, ok := g.where[p]; !ok {
		g.where[p] = 0 // no block's name; it goes nowhere yet
		g.met = append(g.met, p)
	}
	return true
}

// words is how many words a block has; -1, if there is no such block.
func (g *going) words(p int) int {
	n, err := g.from.Len(p)
	if err != nil {
		return -1
	}
	return n
}

// read is word i of a block; 0, where it has none.
func (g *going) read(p, i int) uint64 {
	w, _ := g.from.Get(p, i)
	return w
}

// looked is how many words of a block, behind its first one, are looked at. (A mark that is none of a heap's own may tell of more words than there are.)
func (g *going) looked(p int) int {
	_, n, ok := word.Marked(g.read(p, 0))
	if !ok {
		return 0
	}
	return min(n, g.words(p)-1)
}

// take takes a block for each one that was met: for all of them, or for none.
func (g *going) take() (err error) {
	taken := 0
	defer func() {
		if err == nil {
			return
		}
		for _, p := range slices.Backward(g.met[:taken]) {
			g.to.Free(g.where[p])
		}
	}()
	for _, p := range g.met {
		if g.where[p], err = g.to.Alloc(g.words(p)); err != nil {
			return err
		}
		taken++
	}
	return nil
}

// fill writes the blocks that were taken, and keeps the handles of binaries.
func (g *going) fill() {
	for _, p := range g.met {
		last := g.looked(p)
		for i := range g.words(p) {
			w := g.read(p, i)
			if i >= 1 && i <= last {
				w = g.turned(w)
			}
			g.to.Set(g.where[p], i, w)
		}
		if handle, ok := g.handle(p); ok {
			g.to.Binaries().Keep(handle) // refused of one that nobody holds: the copy then holds none, as its block didn't
		}
	}
}

// turned is the word that names a block's copy; any other word stays as it is.
func (g *going) turned(w uint64) uint64 {
	p, ok := g.where[int(w>>width)]
	if !ok || w&low != blockTag {
		return w
	}
	return uint64(p)<<width | blockTag
}

// handle is the handle of a binary's block: of just those whose handle a heap drops when it gives them back.
func (g *going) handle(p int) (handle int, ok bool) {
	kind, n, _ := word.Marked(g.read(p, 0))
	w := g.read(p, 1)
	if kind != binaryKind || n != binaryLooked || g.words(p) != binaryWords || w&low != handleTag {
		return 0, false
	}
	return int(w >> width), true
}
