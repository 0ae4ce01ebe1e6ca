package word

import (
	"strings"
	"sync"

	"troupe/api"
	"troupe/fault"
)

const longestName = 255

// Atoms is a table of atoms.
type Atoms struct {
	made    sync.Once
	numbers map[string]int
	names   []string // by number
}

// NewAtoms is an empty table.
func NewAtoms() *Atoms { return &Atoms{} }

// table is the names' numbers; it is made when it is first asked for.
func (a *Atoms) table() map[string]int {
	a.made.Do(func() { a.numbers = map[string]int{} })
	return a.numbers
}

// Number is a name's number.
func (a *Atoms) Number(name string) (int, error) {
	if len(name) == 0 || len(name) > longestName {
		return -1, fault.At("atom", len(name), api.ErrArg)
	}
	table := a.table()
	if n, ok := table[name]; ok {
		return n, nil
	}
	n := len(a.names)
	if n == api.MaxAtoms {
		return -1, fault.At("atom", len(name), api.ErrFull)
	}
	name = strings.Clone(name) // it may be a piece of a text, and would keep all of it
	table[name] = n
	a.names = append(a.names, name)
	return n, nil
}

// Name is a number's name.
func (a *Atoms) Name(n int) (string, error) {
	if n < 0 || n >= len(a.names) {
		return "", fault.At("atom", n, api.ErrNone)
	}
	return a.names[n], nil
}

// Len is how many atoms there are.
func (a *Atoms) Len() int { return len(a.names) }
