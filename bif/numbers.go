package bif

import "troupe/api"

// mostShift is by how much a number is shifted at most.
const mostShift = 63

// numbers are the functions of numbers. Go's own wrap round, divide towards 0 and keep the sign as they have to.
func (c *call) numbers() map[string]doing {
	return map[string]doing{
		"add":  c.add,
		"sub":  c.sub,
		"mul":  c.mul,
		"div":  c.div,
		"rem":  c.rem,
		"neg":  c.neg,
		"band": c.band,
		"bor":  c.bor,
		"bxor": c.bxor,
		"bsl":  c.bsl,
		"bsr":  c.bsr,
	}
}

func (c *call) add() (api.Term, bool) { return integer(c.number(0) + c.number(1)) }

func (c *call) sub() (api.Term, bool) { return integer(c.number(0) - c.number(1)) }

func (c *call) mul() (api.Term, bool) { return integer(c.number(0) * c.number(1)) }

func (c *call) div() (api.Term, bool) {
	if c.number(1) == 0 {
		return api.Term{}, false
	}
	return integer(c.number(0) / c.number(1))
}

func (c *call) rem() (api.Term, bool) {
	if c.number(1) == 0 {
		return api.Term{}, false
	}
	return integer(c.number(0) % c.number(1))
}

func (c *call) neg() (api.Term, bool) { return integer(-c.number(0)) }

func (c *call) band() (api.Term, bool) { return integer(c.number(0) & c.number(1)) }

func (c *call) bor() (api.Term, bool) { return integer(c.number(0) | c.number(1)) }

func (c *call) bxor() (api.Term, bool) { return integer(c.number(0) ^ c.number(1)) }

// shift is by how much a number is to be shifted; false if it can't be.
func (c *call) shift() (int64, bool) {
	by := c.number(1)
	return by, by >= 0 && by <= mostShift
}

func (c *call) bsl() (api.Term, bool) {
	by, ok := c.shift()
	if !ok {
		return api.Term{}, false
	}
	return integer(c.number(0) << by)
}

func (c *call) bsr() (api.Term, bool) {
	by, ok := c.shift()
	if !ok {
		return api.Term{}, false
	}
	return integer(c.number(0) >> by)
}
