package wheel

// turn is how many slots a wheel has.
const turn = 64

// How many ticks a slot of each wheel is long: as many as a turn of the lesser wheel.
const (
	long1 = 1
	long2 = turn * long1
	long3 = turn * long2
	long4 = turn * long3
	long5 = turn * long4
)

// Each wheel embeds the next one's slots. A turn of the fifth one is as long as the longest timer, so no slot of it holds timers of two turns.
type (
	first struct {
		slots1 slots
		second
	}
	second struct {
		slots2 slots
		third
	}
	third struct {
		slots3 slots
		fourth
	}
	fourth struct {
		slots4 slots
		fifth
	}
	fifth struct {
		slots5 slots
	}
)

// slots are those of one wheel.
type slots [turn]slot

// slot holds timers, each of which names its neighbours, so that one is taken away without a look at the others.
type slot struct{ head *timer }

// timer is a timer, and its neighbours in its slot.
type timer struct {
	id, what      int64
	at            int
	ahead, behind *timer
}

// add puts a timer ahead of the others.
func (s *slot) add(t *timer) {
	t.ahead, t.behind = nil, s.head
	if s.head != nil {
		s.head.ahead = t
	}
	s.head = t
}

// drop takes a timer of this slot away.
func (s *slot) drop(t *timer) {
	if t.ahead == nil {
		s.head = t.behind
	} else {
		t.ahead.behind = t.behind
	}
	if t.behind != nil {
		t.behind.ahead = t.ahead
	}
}

// take takes one away, whichever; nil, if there is none.
func (s *slot) take() *timer {
	t := s.head
	if t != nil {
		s.drop(t)
	}
	return t
}

// pour puts all of them into the slots of a lesser wheel.
func (s *slot) pour(lesser *slots, long int) {
	for t := s.take(); t != nil; t = s.take() {
		lesser.at(t.at, long).add(t)
	}
}

// at is the slot of a time, where each slot is so long.
func (s *slots) at(time, long int) *slot { return &s[time/long%turn] }

// ahead is how many slots further than this one the next slot is that holds timers; 0, if none does.
func (s *slots) ahead(this int) int {
	for n := 1; n <= turn; n++ {
		if s[(this+n)%turn].head != nil {
			return n
		}
	}
	return 0
}

// slot is where a timer of that time stands: in the least wheel that comes to it in this turn, or in the greatest.
func (w *Wheel) slot(at int) *slot {
	switch now := w.now; {
	case at/long2 == now/long2:
		return w.slots1.at(at, long1)
	case at/long3 == now/long3:
		return w.slots2.at(at, long2)
	case at/long4 == now/long4:
		return w.slots3.at(at, long3)
	case at/long5 == now/long5:
		return w.slots4.at(at, long4)
	}
	return w.slots5.at(at, long5)
}

// next is when the next slot that holds timers begins; false, if none does. What a lesser wheel holds is due in the slot of the greater one in which it is now, so ahead of all that the greater one holds.
func (w *Wheel) next() (int, bool) {
	long := long1
	for _, s := range [...]*slots{&w.slots1, &w.slots2, &w.slots3, &w.slots4, &w.slots5} {
		this := w.now / long
		if n := s.ahead(this); n > 0 {
			return (this + n) * long, true
		}
		long *= turn
	}
	return 0, false
}

// fall pours each slot that begins now into the next lesser wheel. The greatest wheel is first, as what falls from it may fall on.
func (w *Wheel) fall() {
	switch now := w.now; {
	case now%long5 == 0:
		w.slots5.at(now, long5).pour(&w.slots4, long4)
		fallthrough
	case now%long4 == 0:
		w.slots4.at(now, long4).pour(&w.slots3, long3)
		fallthrough
	case now%long3 == 0:
		w.slots3.at(now, long3).pour(&w.slots2, long2)
		fallthrough
	case now%long2 == 0:
		w.slots2.at(now, long2).pour(&w.slots1, long1)
	}
}
