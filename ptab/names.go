package ptab

import (
	"maps"
	"slices"
	"strings"

	"troupe/api"
	"troupe/fault"
)

const longestName = 255

// names tell whose each name is.
type names map[string]int64

// sorted are all names, in the order of their bytes.
func (ns names) sorted() []string { return slices.Sorted(maps.Keys(ns)) }

// forget takes all names of one away, and tells which.
func (ns names) forget(pid int64) []string {
	var gone []string
	for _, name := range ns.sorted() {
		if ns[name] == pid {
			delete(ns, name)
			gone = append(gone, name)
		}
	}
	return gone
}

// Register gives it a name.
func (t *Table) Register(name string, pid int64) error {
	if err := t.mayName(name, pid); err != nil {
		return fault.At("register", len(name), err)
	}
	t.names[strings.Clone(name)] = pid // it may be a piece of a text, and would keep all of it
	return nil
}

// mayName is what is wrong with giving that name to that number; nil, if it may be.
func (t *Table) mayName(name string, pid int64) error {
	if name == "" || len(name) > longestName {
		return api.ErrArg
	}
	if err := t.wrong(pid); err != nil {
		return err
	}
	if _, there := t.names[name]; there {
		return api.ErrTaken
	}
	if len(t.names) == api.MaxNames {
		return api.ErrFull
	}
	return nil
}

// Unregister takes a name away.
func (t *Table) Unregister(name string) error {
	if _, err := t.Whereis(name); err != nil {
		return err
	}
	delete(t.names, name)
	return nil
}

// Whereis is whose name it is.
func (t *Table) Whereis(name string) (int64, error) {
	pid, there := t.names[name]
	if !there {
		return -1, fault.At("name", len(name), api.ErrNone)
	}
	return pid, nil
}

// Names are all names.
func (t *Table) Names() []string { return t.names.sorted() }
