package code

import (
	"math"

	"troupe/api"
	"troupe/fault"
	"troupe/tree"
)

const (
	groupBits  = 7
	moreGroups = 1 << groupBits // the bit of a byte behind which there are more groups
	mostGroups = 6              // of a number
	mostSigned = 10             // groups of a signed number
)

// reader goes through a module's bytes. Its methods give up by a panic with a chain, at the first byte that is wrong.
type reader struct {
	bytes []byte
	at    int // the byte that is next
}

// wrong is what the reader gives up with at a byte.
func wrong(place int) error { return fault.At("read", place, api.ErrBytes) }

// module reads one module, and nothing behind it.
func (r *reader) module() api.Module {
	for i := range len(beginning) {
		if r.next() != beginning[i] {
			panic(wrong(i))
		}
	}
	m := api.Module{Name: string(r.some())}
	for range r.count() {
		m.Lits = append(m.Lits, r.literal())
	}
	for range r.count() {
		m.Funcs = append(m.Funcs, r.function())
	}
	if r.at < len(r.bytes) {
		panic(wrong(r.at))
	}
	return m
}

// literal reads a term, which is to be one that may be.
func (r *reader) literal() api.Term {
	from := r.at
	t := r.term()
	if err := tree.Right(t); err != nil {
		panic(fault.At("read", from, err))
	}
	return t
}

func (r *reader) function() api.Func {
	f := api.Func{Name: string(r.some()), Args: r.number(), Slots: r.number()}
	for range r.count() {
		f.Code = append(f.Code, api.Ins{Op: int(r.next()), A: r.operand(), B: r.operand(), C: r.operand()})
	}
	return f
}

// next reads one byte.
func (r *reader) next() byte {
	if r.at == len(r.bytes) {
		panic(wrong(r.at))
	}
	r.at++
	return r.bytes[r.at-1]
}

// some reads bytes, ahead of which it is told how many they are. What it answers is a part of all bytes.
func (r *reader) some() []byte {
	n := r.count()
	r.at += n
	return r.bytes[r.at-n : r.at]
}

// count reads how many things follow, each of which has a byte at least.
func (r *reader) count() int {
	from := r.at
	n := r.number()
	if n > len(r.bytes)-r.at {
		panic(wrong(from))
	}
	return n
}

func (r *reader) number() int { return int(r.groups(mostGroups, mostNumber)) }

func (r *reader) integer() int64 { return r.signed(math.MaxUint64) }

// operand reads a signed number as far from 0 as an operand may be. (Those below 0 are written as the odd numbers, so the greatest one is written as the greatest.)
func (r *reader) operand() int { return int(r.signed(2 * mostFar)) }

// signed reads a signed number, which is written as a number no greater than most.
func (r *reader) signed(most uint64) int64 {
	n := r.groups(mostSigned, most)
	return int64(n>>1) ^ -int64(n&1)
}

// groups reads a number no greater than most, of at most so many groups. All that may be wrong with it is wrong at its first byte, but for an end that comes too soon.
func (r *reader) groups(count int, most uint64) uint64 {
	from, n := r.at, uint64(0)
	for i := range count {
		b := r.next()
		group, shift := uint64(b%moreGroups), groupBits*i
		n |= group << shift
		if b >= moreGroups {
			continue
		}
		if i > 0 && group == 0 || group > most>>shift || n > most { // (n may have lost bits of a last group that is too great)
			break
		}
		return n
	}
	panic(wrong(from))
}
