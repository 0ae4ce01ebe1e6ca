package proc

import (
	"slices"

	"troupe/api"
	"troupe/word"
)

// Operands beyond registers.
const (
	firstSlot    = api.Regs
	firstLiteral = 64
)

// What a word's lowest bits say that it is, as far as a process goes by it.
const (
	width    = 3 // how many the lowest bits are
	low      = 1<<width - 1
	blockTag = 5

	nilWord = 4
)

// Kinds of marks.
const (
	aTuple = iota + 1
	aPair
	aNumber
	aBinary
)

// kinds are the kinds of terms by those of the marks of their blocks.
var kinds = [...]int{aTuple: api.Tuple, aPair: api.List, aNumber: api.Int, aBinary: api.Bin}

// nils are so many nils.
func nils(n int) []uint64 { return slices.Repeat([]uint64{nilWord}, n) }

// place is what a place's operand names.
func (p *Proc) place(operand int) *uint64 {
	if operand < firstSlot {
		return &p.registers[operand]
	}
	return &p.top().slots[operand-firstSlot]
}

// source is the word that a source's operand names.
func (p *Proc) source(operand int) (uint64, error) {
	if operand < firstLiteral {
		return *p.place(operand), nil
	}
	return p.literal(operand - firstLiteral)
}

// sources are the words of several.
func (p *Proc) sources(operands ...int) ([]uint64, error) {
	var words []uint64
	for _, operand := range operands {
		w, err := p.source(operand)
		if err != nil {
			return nil, err
		}
		words = append(words, w)
	}
	return words, nil
}

// literal is a literal's word; it is laid when it is first asked for.
func (p *Proc) literal(n int) (uint64, error) {
	if w, ok := p.laid[n]; ok {
		return w, nil
	}
	w, err := p.Store(p.lits[n])
	if err != nil {
		return 0, err
	}
	p.Hold(w)
	p.laid[n] = w
	return w, nil
}

// terms are the terms of words.
func (p *Proc) terms(words ...uint64) ([]api.Term, error) {
	var terms []api.Term
	for _, w := range words {
		t, err := p.Load(w)
		if err != nil {
			return nil, err
		}
		terms = append(terms, t)
	}
	return terms, nil
}

// plain is the term of a word that wants no block; the zero Term of any other.
func (p *Proc) plain(w uint64) api.Term {
	t, _, _ := word.Plain(w, p.atoms)
	return t
}

// block is the block that a word names, and the kind of its term; 0, 0 of a word that names none.
func (p *Proc) block(w uint64) (b, kind int) {
	if w&low != blockTag {
		return 0, 0
	}
	b = int(w >> width)
	first, _ := p.Get(b, 0)
	mark, _, _ := word.Marked(first)
	return b, kinds[mark]
}

// kind is the kind of a word's term, whose parts are not looked at: it may be greater than one that can be told.
func (p *Proc) kind(w uint64) int {
	if t := p.plain(w); t.Kind != 0 {
		return t.Kind
	}
	_, kind := p.block(w)
	return kind
}

// put puts a term that is made in a place.
func (p *Proc) put(place int, t api.Term) error {
	w, err := p.Store(t)
	if err == nil {
		*p.place(place) = w
	}
	return err
}

// lay lays a block of words that are looked at, and puts its word in a place.
func (p *Proc) lay(place, mark int, words ...uint64) error {
	first, _ := word.Mark(mark, len(words)) // never refused: there are no more words than registers
	b, err := p.Alloc(1 + len(words))
	if err != nil {
		return err
	}
	for i, w := range slices.Concat([]uint64{first}, words) {
		p.Set(b, i, w)
	}
	*p.place(place) = uint64(b)<<width | blockTag
	return nil
}
