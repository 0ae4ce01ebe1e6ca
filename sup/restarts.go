package sup

import "slices"

// restarts are the notes of when children were started again: no more than the latest ones, as only whether there are more than most of them within some ticks is ever asked.
type restarts struct {
	most, within int
	times        []int // rising
}

// note notes a restart, and tells whether there are too many now.
func (r *restarts) note(now int) bool {
	place, _ := slices.BinarySearch(r.times, now)
	r.times = slices.Insert(r.times, place, now)
	if len(r.times) <= r.most {
		return false
	}
	if elapsed(r.times[0], now) < uint64(r.within) {
		return true
	}
	r.times = r.times[1:]
	return false
}

// elapsed is how many ticks it is from one time to another, which may be more than an int holds; 0, if the other is not later.
func elapsed(from, to int) uint64 {
	if to <= from {
		return 0
	}
	return uint64(to) - uint64(from)
}
