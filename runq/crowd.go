package runq

import (
	"maps"

	"troupe/api"
)

// few is so small a crowd that its map's room is not worth letting go.
const few = 64

// crowd are all who stand in a queue.
type crowd struct {
	stands map[int64]*stand // by their pids
	most   int              // as many as the map has had room for
}

// find is where one stands.
func (c *crowd) find(pid int64) (*stand, error) {
	s, there := c.stands[pid]
	if !there {
		return nil, api.ErrNone
	}
	return s, nil
}

// add adds one who stands nowhere yet.
func (c *crowd) add(s *stand) {
	if c.stands == nil {
		c.stands = map[int64]*stand{}
	}
	c.stands[s.pid] = s
	c.most = max(c.most, len(c.stands))
}

// drop takes one away.
func (c *crowd) drop(s *stand) {
	delete(c.stands, s.pid)
	c.tighten()
}

// tighten lets the room of those who are gone go, which a map keeps, once it is far more than the others' own: so each who is moved has been paid for by three who are gone.
func (c *crowd) tighten() {
	if c.most <= few || len(c.stands) >= c.most/4 {
		return
	}
	left := make(map[int64]*stand, len(c.stands))
	maps.Copy(left, c.stands)
	c.stands, c.most = left, len(left)
}

// size is how many there are.
func (c *crowd) size() int { return len(c.stands) }
