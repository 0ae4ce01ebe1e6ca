package code

import "troupe/api"

// fits tells whether the numbers of a function may be written.
func fits(f api.Func) bool {
	if !within(f.Args, 0, mostNumber) || !within(f.Slots, 0, mostNumber) {
		return false
	}
	for _, ins := range f.Code {
		if !within(ins.Op, 0, mostOp) {
			return false
		}
		for _, n := range [3]int{ins.A, ins.B, ins.C} {
			if !within(n, -mostFar, mostFar) {
				return false
			}
		}
	}
	return true
}

func within(n int, least, most int64) bool {
	return int64(n) >= least && int64(n) <= most
}

// writeFunction puts a function that fits behind b.
func writeFunction(b []byte, f api.Func) []byte {
	b = writeBytes(b, f.Name)
	b = writeNumber(b, uint64(f.Args))
	b = writeNumber(b, uint64(f.Slots))
	b = writeCount(b, len(f.Code))
	for _, ins := range f.Code {
		b = append(b, byte(ins.Op))
		for _, n := range [3]int{ins.A, ins.B, ins.C} {
			b = writeSigned(b, int64(n))
		}
	}
	return b
}

// writeTerm puts a term that may be behind b. (It calls itself no deeper than such a term is.)
func writeTerm(b []byte, t api.Term) []byte {
	b = append(b, byte(t.Kind))
	switch t.Kind {
	case api.Int, api.Ref, api.Pid:
		b = writeSigned(b, t.N)
	case api.Atom:
		b = writeBytes(b, t.Name)
	case api.Tuple:
		b = writeTerms(b, t.Items)
	case api.List:
		b = writeTerms(b, t.Items)
		b = writeTerms(b, t.Rest) // as a count of its own: 0 or 1
	case api.Bin:
		b = writeBytes(b, t.Bytes)
	}
	return b
}

// writeTerms puts how many terms there are, and these, behind b.
func writeTerms(b []byte, ts []api.Term) []byte {
	b = writeCount(b, len(ts))
	for _, t := range ts {
		b = writeTerm(b, t)
	}
	return b
}

// writeBytes puts how many bytes there are, and these, behind b.
func writeBytes[T string | []byte](b []byte, bytes T) []byte {
	return append(writeCount(b, len(bytes)), bytes...)
}

func writeCount(b []byte, n int) []byte { return writeNumber(b, uint64(n)) }

// writeSigned puts a signed number behind b: as an even number, or, below 0, as an odd one.
func writeSigned(b []byte, n int64) []byte {
	return writeNumber(b, uint64(n)<<1^uint64(n>>63))
}

// writeNumber puts a number behind b, in groups of seven bits.
func writeNumber(b []byte, n uint64) []byte {
	for n >= moreGroups {
		b = append(b, byte(n)|moreGroups)
		n >>= groupBits
	}
	return append(b, byte(n))
}
