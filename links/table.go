package links

import "slices"

// pair is one, and what it has.
type pair [2]int64

// table tells who has what. What each one has is a list too, so that it is told without a look at what all others have.
type table struct {
	places map[pair]int // where a pair's what stands in the list of its one
	lists  map[int64][]int64
}

// there tells whether that one has that.
func (t *table) there(p pair) bool {
	_, there := t.places[p]
	return there
}

// add gives one what it has not yet.
func (t *table) add(p pair) {
	if t.places == nil {
		*t = table{map[pair]int{}, map[int64][]int64{}}
	}
	list := t.lists[p[0]]
	t.places[p] = len(list)
	t.lists[p[0]] = append(list, p[1])
}

// drop takes from one what it has. The last of its list goes where that stood, so that no others are moved.
func (t *table) drop(p pair) {
	list, place := t.lists[p[0]], t.places[p]
	end := len(list) - 1
	list[place] = list[end]
	t.places[pair{p[0], list[place]}] = place
	delete(t.places, p)
	t.shorten(p[0], end)
}

// shorten leaves so many in one's list. With the last of all go the maps too, which would keep the room of all that were ever there.
func (t *table) shorten(one int64, to int) {
	t.lists[one] = t.lists[one][:to]
	if to == 0 {
		delete(t.lists, one)
	}
	if len(t.lists) == 0 {
		*t = table{}
	}
}

// of is all that one has, rising.
func (t *table) of(one int64) []int64 {
	list := slices.Clone(t.lists[one])
	slices.Sort(list)
	return list
}

// size is how many pairs there are.
func (t *table) size() int { return len(t.places) }
