package sup

import "troupe/api"

// plan is what is under way: who is to be stopped, and what is to come behind the last one.
type plan struct {
	from, to int // the first one, and behind the last one
	then     func() []api.Act
}

// again makes the plan of a child's restart: whom the strategy names is stopped, and started again.
func (s *Sup) again(child int) {
	s.plan = plan{0, len(s.children), s.startAgain}
	switch s.strategy {
	case api.OneForOne:
		s.plan.to = child + 1
		fallthrough // it is the first one too
	case api.RestForOne:
		s.plan.from = child
	}
}

// end makes the plan of its own end.
func (s *Sup) end() { s.plan = plan{0, len(s.children), s.exit} }

// turn stops the last one that is to be stopped and is up, or goes on to what is to come, if there is none.
func (s *Sup) turn(now int) []api.Act {
	for child := s.plan.to - 1; child >= s.plan.from; child-- {
		if s.children[child].up {
			return s.halt(child, now)
		}
	}
	return s.plan.then()
}

// halt stops a child.
func (s *Sup) halt(child, now int) []api.Act {
	s.state, s.halting, s.since = stopping, child, now
	if s.children[child].timeout == atOnce {
		return s.kill()
	}
	s.killed = false
	return []api.Act{{Kind: api.ActStop, Child: child}}
}

// kill kills the child that is being stopped.
func (s *Sup) kill() []api.Act {
	s.killed = true
	return []api.Act{{Kind: api.ActKill, Child: s.halting}}
}

// start starts a child.
func (s *Sup) start(child int) api.Act {
	s.children[child].up = true
	return api.Act{Kind: api.ActStart, Child: child}
}

// startAgain starts those that were to be stopped, which are all down now, but for Temporary ones.
func (s *Sup) startAgain() []api.Act {
	s.state = idle
	var acts []api.Act
	for child := s.plan.from; child < s.plan.to; child++ {
		if s.children[child].restart != api.Temporary {
			acts = append(acts, s.start(child))
		}
	}
	return acts
}

// exit is its end.
func (s *Sup) exit() []api.Act {
	s.state = done
	return []api.Act{{Kind: api.ActExit}}
}
