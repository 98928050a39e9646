package net

import (
	"errors"

	"sacristy/api"
	"sacristy/depot"
	"sacristy/root"
)

// change has a closure edit a copy of the net, and the net be that one once its root is there to stay. With an error nothing is left of it, but where the power went.
func (n *Net) change(edit func(next *Net) error) error {
	next := &Net{n.shelf, n.again()}
	next.root.Count++
	err := edit(next)
	if err == nil {
		err = next.publish()
	}
	s := n.shelf
	switch {
	case err == nil:
		n.state = next.state
		whatever(sweepOwn(s, n.root), sweepPool(s, n.root), syncOf(s, ownDir), syncOf(s, poolDir))
	case !errors.Is(err, api.ErrDown):
		whatever(removeNew(s), sweepOwn(s, n.root), sweepPool(s, n.root))
	}
	return err
}

// publish has the root be that of the shelf, in such a row that wherever the power goes one is there, and whole, with all that it names.
func (n *Net) publish() error {
	b, right := root.Put(n.root)
	if !right {
		return &fault{"root", api.ErrTooMany}
	}
	s := n.shelf
	return inRow(syncOf(s, ownDir), syncOf(s, poolDir), writeNew(s, b), syncOf(s, rootDir), renameNew(s), syncOf(s, rootDir))
}

// packed saves a pack of objects: the names of the packs that there are of them then, which is one, or none if there are no objects.
func (n *Net) packed(dir string, l []api.Held, plan func(l []api.Held) []api.Entry) ([]string, error) {
	if len(l) == 0 {
		return nil, nil
	}
	if len(l) > api.MaxObjects {
		return nil, &fault{"objects of a pack", api.ErrTooMany}
	}
	name, e := depot.Save(n.shelf, dir, plan(l))
	if e != api.OK {
		return nil, &fault{"pack in " + dir, e}
	}
	return []string{name}, nil
}
