package net

import (
	"sacristy/api"
	"sacristy/island"
	"sacristy/refs"
)

// deep is how many deltas may stand on one another in what is packed anew.
const deep = 4

// together is entries of objects of which each may stand on each other one: who has one has all.
func together(l []api.Held) []api.Entry { return island.Plan(l, make([]int, len(l)), deep) }

// apart is entries of objects of the pool, of which none stands on what not all linked forks have that come to it.
func (st *state) apart(l []api.Held) []api.Entry {
	// A fork may come to what is in the pool by way of its own alone. The marks of all that is seen begin with those of l.
	seen := l[:len(l):len(l)]
	var tips [][]string
	for _, f := range st.borrowers() {
		seen = append(seen, st.own[f.Name]...)
		tips = append(tips, refs.Tips(f.Refs))
	}
	return island.Plan(l, island.Marks(seen, tips)[:len(l)], deep)
}
