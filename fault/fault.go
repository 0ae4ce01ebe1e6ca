// Package fault is layer 1: chains of errors. See shared/doc/01-fault.md.
package fault

import (
	"slices"

	"troupe/api"
)

// At wraps an error.
func At(op string, n int, err error) error {
	if err == nil {
		return nil
	}
	return &api.Fault{Op: op, N: n, Err: err}
}

// Kind is a chain's kind.
func Kind(err error) api.Errno {
	if err == nil {
		return api.OK
	}
	if !ends(err, deepest) {
		return api.ErrArg
	}
	if e, ok := find[api.Errno](err); ok {
		return e
	}
	return api.ErrArg
}

// Path are a chain's Ops.
func Path(err error) []string {
	var ops []string
	for _, f := range faults(err) {
		ops = append(ops, f.Op)
	}
	return ops
}

// Number is the number of an Op.
func Number(err error, op string) (int, bool) {
	for _, f := range faults(err) {
		if f.Op == op {
			return f.N, true
		}
	}
	return 0, false
}

// Is tells whether a kind is in the chain.
func Is(err error, kinds ...api.Errno) bool {
	if err == nil {
		return slices.Contains(kinds, api.OK)
	}
	if !ends(err, deepest) {
		return false
	}
	for _, k := range kinds {
		if k != api.OK && has(err, k) {
			return true
		}
	}
	return false
}

// Class is how bad a kind is.
func Class(e api.Errno) int {
	class := 3
	switch e { // each case is milder by one than what it falls to
	case api.OK:
		class--
		fallthrough
	case api.ErrNone, api.ErrStale, api.ErrTaken:
		class--
		fallthrough
	case api.ErrFull:
		class--
		fallthrough
	default:
		return class
	}
}

// Trim is the chain without its first links.
func Trim(err error, n int) error {
	mark, lap := err, 1
	for n > 0 && err != nil {
		for gone := 1; gone <= lap && n > 0 && err != nil; gone++ {
			err = unwrap(err)
			n--
			if same(err, mark) { // the chain goes round: whole rounds need no going
				n %= gone
			}
		}
		mark, lap = err, 2*lap
	}
	return err
}
