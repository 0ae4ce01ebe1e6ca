package fault

import (
	"errors"
	"math"

	"troupe/api"
)

// deepest is how many joined errors may lie one in another: a limit that only an error which holds itself comes to.
const deepest = 1 << 20

// ends tells whether a chain comes to a root. One that wraps itself does not, and errors.Is and errors.As would go round in it for ever.
func ends(err error, nest int) bool {
	if nest == 0 || Trim(err, math.MaxInt) != nil {
		return false
	}
	for _, part := range parts(err) {
		if !ends(part, nest-1) {
			return false
		}
	}
	return true
}

// The functions below ask errors that may be anybody's, or nil pointers: one that panics when it is asked answers nothing.

// parts are the errors that the root of a chain joins, if it is of that kind.
func parts(err error) (list []error) {
	defer func() { _ = recover() }()
	var joined interface{ Unwrap() []error }
	if errors.As(err, &joined) {
		list = joined.Unwrap()
	}
	return list
}

// unwrap is the next link.
func unwrap(err error) (next error) {
	defer func() { _ = recover() }()
	return errors.Unwrap(err)
}

// same tells whether two links are one. (Errors of a kind that Go can't compare panic.)
func same(a, b error) (is bool) {
	defer func() { _ = recover() }()
	return a == b
}

// has tells whether a kind is in a chain that ends.
func has(err error, kind api.Errno) (is bool) {
	defer func() { _ = recover() }()
	return errors.Is(err, kind)
}

// find is the first error of a type in a chain that ends.
func find[T error](err error) (first T, ok bool) {
	defer func() { _ = recover() }()
	ok = errors.As(err, &first)
	return first, ok
}

// faults are a chain's Faults, the outermost first.
func faults(err error) []*api.Fault {
	if !ends(err, deepest) {
		return nil
	}
	var list []*api.Fault
	f, ok := find[*api.Fault](err)
	for ok && f != nil {
		list = append(list, f)
		f, ok = find[*api.Fault](f.Err)
	}
	return list
}
