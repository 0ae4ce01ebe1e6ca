package runq

import "troupe/api"

// often is how often a Pop looks at the greatest prio first, so that those of the least one don't keep it waiting for ever: each eighth time.
const often = 8

// worker is who stands before a worker.
type worker struct {
	queues [api.MaxPrio]queue // by prio
	found  int                // its Pops that found one, since it looked at the greatest prio first
}

// turn is whose turn it is; nil, if there is nobody.
func (w *worker) turn() *stand {
	if w.found < often-1 {
		return w.first(0)
	}
	s := w.last(api.MaxPrio - 1)
	if s == nil {
		return nil
	}
	return w.queues[s.prio].first
}

// count counts a Pop that found one.
func (w *worker) count() { w.found = (w.found + 1) % often }

// first is the first of those of that prio, or of the next greater one that has one; nil, if there is nobody.
func (w *worker) first(prio int) *stand {
	switch prio {
	case 0:
		if s := w.queues[0].first; s != nil {
			return s
		}
		fallthrough
	case 1:
		if s := w.queues[1].first; s != nil {
			return s
		}
		fallthrough
	case 2:
		return w.queues[2].first
	}
	return nil
}

// last is the last of those of that prio, or of the next lesser one that has one; nil, if there is nobody.
func (w *worker) last(prio int) *stand {
	switch prio {
	case 2:
		if s := w.queues[2].last; s != nil {
			return s
		}
		fallthrough
	case 1:
		if s := w.queues[1].last; s != nil {
			return s
		}
		fallthrough
	default:
		return w.queues[0].last
	}
}

// behind is who comes behind one, by prio, then in order; nil, if nobody does.
func (w *worker) behind(s *stand) *stand {
	if s.behind != nil {
		return s.behind
	}
	return w.first(s.prio + 1)
}
