package net

import (
	"sacristy/api"
	"sacristy/cut"
	"sacristy/pack"
	"sacristy/refs"
	"sacristy/walk"
)

// push changes a fork's refs: with an error of one of the updates the place of that.
func (n *Net) push(name string, u []api.Update, b []byte) (int, error) {
	f, err := n.fork(name)
	if err != nil {
		return 0, err
	}
	l, e, at := refs.Apply(f.Refs, u)
	if e != api.OK {
		return at, &fault{"refs of " + name, e}
	}
	more, err := taken(n.has(f), b, refs.Tips(l))
	if err != nil {
		return 0, err
	}
	more = without(more, n.sees(f))
	return 0, n.change(func(next *Net) error {
		packs, err := next.packed(ownDir, more, pack.Whole)
		to := next.at(name)
		to.Refs, to.Packs = l, append(to.Packs, packs...)
		next.own[name] = walk.Join(next.own[name], more)
		return err
	})
}

// taken is what tips come to of the objects of a pack's bytes, if these and what is had are all that they come to, and no more than may be.
func taken(has []api.Held, b []byte, tips []string) ([]api.Held, error) {
	got, err := received(has, b)
	if err != nil {
		return nil, err
	}
	all := walk.Join(has, got)
	if e := walk.Sound(all, tips); e != api.OK {
		return nil, &fault{"objects", e}
	}
	come, _ := walk.Closure(all, tips)
	if len(come) > api.MaxObjects {
		return nil, &fault{"objects of a fork", api.ErrTooMany}
	}
	return walk.Pick(got, come), nil
}

// received is the objects of a pack's bytes, of which no bytes are a pack of nothing.
func received(has []api.Held, b []byte) ([]api.Held, error) {
	if len(b) == 0 {
		return nil, nil
	}
	l, e := pack.Get(b)
	if e != api.OK {
		return nil, &fault{"bytes", api.ErrCorrupt}
	}
	objs, e := pack.Resolve(l, has)
	if e != api.OK {
		return nil, &fault{"entries", e}
	}
	return walk.Set(objs), nil
}

// fetch is a pack of what a fork has, and one who has some of it has not.
func (n *Net) fetch(name string, wants []string, haves []string) ([]byte, error) {
	f, err := n.fork(name)
	if err != nil {
		return nil, err
	}
	has := n.has(f)
	ids, e := cut.Send(has, refs.Tips(f.Refs), wants, haves)
	if e != api.OK {
		return nil, &fault{"wants", e}
	}
	b, e := pack.Put(pack.Whole(walk.Pick(has, ids)))
	return b, wrap("bytes", e)
}
