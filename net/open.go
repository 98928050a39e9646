package net

import (
	"sacristy/api"
	"sacristy/depot"
	"sacristy/refs"
	"sacristy/root"
	"sacristy/shelf"
	"sacristy/walk"
)

// begin puts a root without forks on a shelf that has none.
func begin(s *shelf.Shelf) error {
	if s.Down() {
		return &fault{"power", api.ErrDown}
	}
	if _, e := s.Read(rootFile); e == api.OK {
		return &fault{rootFile, api.ErrThere}
	}
	b, _ := root.Put(api.Root{})
	return inRow(writeNew(s, b), syncOf(s, rootDir), renameNew(s), syncOf(s, rootDir))
}

// open is the net of a shelf, on which nothing is left then of what was under way when the power went.
func open(s *shelf.Shelf) (*Net, error) {
	b, e := s.Read(rootFile)
	if e != api.OK {
		return nil, &fault{rootFile, e}
	}
	st, err := load(s, b)
	if err != nil {
		return nil, &rot{err}
	}
	err = inRow(removeNew(s), sweepOwn(s, st.root), sweepPool(s, st.root), syncOf(s, rootDir), syncOf(s, ownDir), syncOf(s, poolDir))
	return &Net{s, st}, err
}

// load is the state that a root's lines tell, if all that it needs is there as it has to be.
func load(s *shelf.Shelf, b []byte) (state, error) {
	r, is := root.Get(b)
	if !is {
		return state{}, &fault{rootFile, api.ErrCorrupt}
	}
	pool, e := depot.All(s, poolDir, r.Pool)
	if e != api.OK {
		return state{}, &fault{"packs of the pool", e}
	}
	st := state{r, pool, map[string][]api.Held{}}
	for _, f := range r.Forks {
		st.own[f.Name], e = depot.All(s, ownDir, f.Packs)
		if e != api.OK {
			return state{}, &fault{"packs of " + f.Name, e}
		}
		if e := walk.Sound(st.sees(f), refs.Tips(f.Refs)); e != api.OK {
			return state{}, &fault{"refs of " + f.Name, e}
		}
	}
	return st, nil
}
