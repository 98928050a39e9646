package net

import (
	"slices"
	"strings"

	"sacristy/api"
	"sacristy/pack"
	"sacristy/root"
	"sacristy/walk"
)

// create makes a fork that has nothing of its own: what it has of another one the pool has by then.
func (n *Net) create(name string, from string) error {
	if !root.Named(name) {
		return &fault{"name " + name, api.ErrArg}
	}
	if root.Find(n.root, name) >= 0 {
		return &fault{"fork " + name, api.ErrThere}
	}
	f := api.Fork{Head: "heads/main"} // of nothing; it has nothing
	if from != "" {
		var err error
		if f, err = n.fork(from); err != nil {
			return err
		}
	}
	return n.change(func(next *Net) error {
		made := api.Fork{Name: name, Linked: true, Head: f.Head, Refs: slices.Clone(f.Refs)}
		next.root.Forks = append(next.root.Forks, made)
		slices.SortFunc(next.root.Forks, func(a, b api.Fork) int { return strings.Compare(a.Name, b.Name) })
		return next.lend(n.has(f))
	})
}

// remove has a fork go.
func (n *Net) remove(name string) error {
	if _, err := n.fork(name); err != nil {
		return err
	}
	return n.change(func(next *Net) error {
		next.root.Forks = slices.DeleteFunc(next.root.Forks, func(f api.Fork) bool { return f.Name == name })
		delete(next.own, name)
		return nil
	})
}

// detach has a fork have all of its own.
func (n *Net) detach(name string) error {
	f, err := n.borrower(name)
	if err != nil {
		return err
	}
	return n.change(func(next *Net) error {
		next.at(name).Linked = false
		return next.settle(name, n.has(f), pack.Whole)
	})
}

// feed has the pool have what a fork has, which needs nothing of its own then.
func (n *Net) feed(name string) error {
	f, err := n.borrower(name)
	if err != nil {
		return err
	}
	return n.change(func(next *Net) error {
		next.bare(name)
		return next.lend(n.has(f))
	})
}

// repack leaves of a fork's own what it needs, in one pack.
func (n *Net) repack(name string) error {
	f, err := n.fork(name)
	if err != nil {
		return err
	}
	l := n.has(f)
	if f.Linked {
		l = without(l, n.pool)
	}
	return n.change(func(next *Net) error { return next.settle(name, l, together) })
}

// repackPool has all that the pool has be in one pack.
func (n *Net) repackPool() error {
	return n.change(func(next *Net) error { return next.fill(n.pool, n.apart) })
}

// prune has the pool have what linked forks have, and these nothing of their own.
func (n *Net) prune() error {
	var all []api.Held
	for _, f := range n.borrowers() {
		all = walk.Join(all, n.has(f))
	}
	return n.change(func(next *Net) error {
		for _, f := range n.borrowers() {
			next.bare(f.Name)
		}
		return next.fill(all, n.apart)
	})
}

// at is the fork of a name that is there, in its place.
func (n *Net) at(name string) *api.Fork { return &n.root.Forks[root.Find(n.root, name)] }

// bare has a fork have nothing of its own.
func (n *Net) bare(name string) {
	n.at(name).Packs = nil
	delete(n.own, name)
}

// settle has a fork have objects of its own, all in one pack.
func (n *Net) settle(name string, l []api.Held, plan func(l []api.Held) []api.Entry) error {
	packs, err := n.packed(ownDir, l, plan)
	n.at(name).Packs, n.own[name] = packs, l
	return err
}

// fill has the pool have objects, all in one pack.
func (n *Net) fill(l []api.Held, plan func(l []api.Held) []api.Entry) error {
	packs, err := n.packed(poolDir, l, plan)
	n.root.Pool, n.pool = packs, l
	return err
}

// lend puts into the pool those of objects that it has not.
func (n *Net) lend(l []api.Held) error {
	more := without(l, n.pool)
	packs, err := n.packed(poolDir, more, pack.Whole)
	n.root.Pool, n.pool = append(n.root.Pool, packs...), walk.Join(n.pool, more)
	return err
}
