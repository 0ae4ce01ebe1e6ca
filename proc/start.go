package proc

import (
	"slices"

	"troupe/api"
	"troupe/binary"
	"troupe/copy"
	"troupe/heap"
	"troupe/tree"
	"troupe/vet"
	"troupe/word"
)

// startable tells what is wrong with a function of a module that is to be run with these arguments.
func startable(m api.Module, f int, args []api.Term) error {
	if err := vet.Module(m); err != nil {
		return err
	}
	if f < 0 || f >= len(m.Funcs) || len(args) != m.Funcs[f].Args {
		return api.ErrIndex
	}
	for _, t := range args {
		if err := tree.Right(t); err != nil {
			return err
		}
	}
	return nil
}

// laidOut is a heap with the arguments on it, and their words. They are laid on a draft first, which has a table of atoms of its own: where one of them has no room, those ahead of it must leave no new atom behind, and a table forgets none.
func laidOut(args []api.Term, c api.Conf, a *word.Atoms, b *binary.Heap) (*heap.Heap, []uint64, error) {
	same := word.NewAtoms()
	tellNames(same, a)
	draft, err := heap.New(c.Words, c.Quota, same, b)
	if err != nil {
		return nil, nil, err
	}
	defer draft.Drop()
	var words []uint64
	for _, t := range args {
		w, err := draft.Store(t)
		if err != nil {
			return nil, nil, err
		}
		words = append(words, w)
	}
	tellNames(a, same)
	h, err := heap.New(c.Words, c.Quota, a, b)
	if err != nil {
		return nil, nil, err
	}
	words, err = copy.Many(h, draft, words...)
	return h, words, err
}

// tellNames tells a table the names that it lacks of another one that begins with its own, so that they have the same numbers in both.
func tellNames(to, from *word.Atoms) {
	for n := to.Len(); n < from.Len(); n++ {
		name, _ := from.Name(n)
		to.Number(name)
	}
}

// ownFuncs are the same functions in new memory, but for their names, as code goes by numbers.
func ownFuncs(funcs []api.Func) []api.Func {
	var own []api.Func
	for _, f := range funcs {
		own = append(own, api.Func{Args: f.Args, Slots: f.Slots, Code: slices.Clone(f.Code)})
	}
	return own
}

// ownTerms are the same terms in new memory.
func ownTerms(terms []api.Term) []api.Term {
	var own []api.Term
	for _, t := range terms {
		own = append(own, tree.Make(nil, t))
	}
	return own
}
