package links

// Kinds of what one has in a net.
const (
	linkedTo  = iota // another one, with whom it shares a link
	watching         // the reference of a monitor that is its own
	watchedBy        // the reference of a monitor of it
	kinds
)

// otherSide is the same link or monitor as the other of the two has it.
func (n *Net) otherSide(kind int, p pair) (int, pair) {
	one, what := p[0], p[1]
	switch kind {
	case watching:
		return watchedBy, pair{n.monitors[what].whom, what}
	case watchedBy:
		return watching, pair{n.monitors[what].who, what}
	}
	return linkedTo, pair{what, one}
}

// tie gives a link or a monitor to both.
func (n *Net) tie(kind int, p pair) {
	back, q := n.otherSide(kind, p)
	n.has[kind].add(p)
	n.has[back].add(q)
}

// cut takes a link or a monitor from both.
func (n *Net) cut(kind int, p pair) {
	back, q := n.otherSide(kind, p)
	switch kind {
	case watching, watchedBy:
		n.forget(p[1])
		fallthrough // two had it, as two have a link
	case linkedTo:
		n.has[kind].drop(p)
		n.has[back].drop(q)
	}
}

// forget takes a reference away; with the last one goes the map, which would keep the room of all that were ever there.
func (n *Net) forget(ref int64) {
	delete(n.monitors, ref)
	if len(n.monitors) == 0 {
		n.monitors = nil
	}
}
