package runq

// queue is one queue, whose ends are known, so that nobody is looked for.
type queue struct{ first, last *stand }

// stand is where one stands: at which worker, in the queue of which prio, between whom. So one leaves without a look at the others.
type stand struct {
	pid           int64
	worker, prio  int
	ahead, behind *stand
}

// add puts one at the end.
func (q *queue) add(s *stand) {
	s.ahead, s.behind = q.last, nil
	if s.ahead == nil {
		q.first = s
	} else {
		s.ahead.behind = s
	}
	q.last = s
}

// drop takes one out, who stands in this queue.
func (q *queue) drop(s *stand) {
	if s.ahead == nil {
		q.first = s.behind
	} else {
		s.ahead.behind = s.behind
	}
	if s.behind == nil {
		q.last = s.ahead
	} else {
		s.behind.ahead = s.ahead
	}
}
