package net

import (
	"maps"
	"slices"

	"sacristy/api"
	"sacristy/refs"
	"sacristy/root"
	"sacristy/walk"
)

// state is a root, and the objects of all packs that it names: the pool's, and by its name each fork's own.
type state struct {
	root api.Root
	pool []api.Held
	own  map[string][]api.Held
}

// again is a state that can be changed while this one stays. Lists of objects are replaced, and never written to: they need no copy.
func (st *state) again() state { return state{copied(st.root), st.pool, maps.Clone(st.own)} }

// copied is a root that has no list in common with another one.
func copied(r api.Root) api.Root {
	r.Pool = slices.Clone(r.Pool)
	r.Forks = slices.Clone(r.Forks)
	for i := range r.Forks {
		f := &r.Forks[i]
		f.Refs, f.Packs = slices.Clone(f.Refs), slices.Clone(f.Packs)
	}
	return r
}

// fork is that of a name, if there is one.
func (st *state) fork(name string) (api.Fork, error) {
	i := root.Find(st.root, name)
	if i < 0 {
		return api.Fork{}, &fault{"fork " + name, api.ErrNone}
	}
	return st.root.Forks[i], nil
}

// borrower is the fork of a name, if it is linked.
func (st *state) borrower(name string) (api.Fork, error) {
	f, err := st.fork(name)
	if err == nil && !f.Linked {
		err = &fault{"pool of " + name, api.ErrArg}
	}
	return f, err
}

// borrowers are the linked forks, by rising names.
func (st *state) borrowers() []api.Fork {
	return slices.DeleteFunc(slices.Clone(st.root.Forks), func(f api.Fork) bool { return !f.Linked })
}

// sees is what a fork could have: its own, and what it can borrow.
func (st *state) sees(f api.Fork) []api.Held {
	if !f.Linked {
		return st.own[f.Name]
	}
	return walk.Join(st.own[f.Name], st.pool)
}

// has is what a fork's refs come to. Whatever else it sees may be of others alone.
func (st *state) has(f api.Fork) []api.Held {
	l := st.sees(f)
	ids, _ := walk.Closure(l, refs.Tips(f.Refs))
	return walk.Pick(l, ids)
}

// held is what the fork of a name has.
func (st *state) held(name string) ([]api.Held, error) {
	f, err := st.fork(name)
	if err != nil {
		return nil, err
	}
	return st.has(f), nil
}

// without is what is in a list, and not in another one.
func without(l []api.Held, other []api.Held) []api.Held {
	times := map[string]int{}
	for _, h := range other {
		times[h.Id]++
	}
	return slices.DeleteFunc(slices.Clone(l), func(h api.Held) bool { return times[h.Id] > 0 })
}
