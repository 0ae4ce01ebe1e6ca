package sup

import (
	"troupe/api"
	"troupe/fault"
)

// What a spec's numbers may be at most.
const (
	mostRestarts = 1000
	mostTicks    = 10000 // of T, and of a child's Timeout
	mostChildren = 32
	mostFunc     = 255
)

// mayBe is what is wrong with a spec; nil, if nothing is.
func mayBe(s api.Spec) error {
	if !isStrategy(s.Strategy) || !isIn(s.M, 0, mostRestarts) || !isIn(s.T, 1, mostTicks) || !isIn(len(s.Children), 1, mostChildren) {
		return api.ErrConf
	}
	for place, c := range s.Children {
		if !isChild(c) {
			return fault.At("child", place, api.ErrConf)
		}
	}
	return nil
}

// isStrategy tells whether there is such a strategy.
func isStrategy(strategy int) bool {
	switch strategy {
	case api.OneForOne, api.OneForAll, api.RestForOne:
		return true
	}
	return false
}

// isChild tells whether a child may be.
func isChild(c api.Child) bool {
	switch c.Restart {
	case api.Permanent, api.Transient, api.Temporary:
		return isIn(len(c.Func), 1, mostFunc) && isIn(c.Timeout, atOnce, mostTicks)
	}
	return false
}

// isIn tells whether a number is from one to another.
func isIn(n, from, to int) bool { return from <= n && n <= to }
