package net_test

import (
	"slices"
	"strings"

	"sacristy/api"
	"sacristy/cut"
	"sacristy/depot"
	"sacristy/island"
	"sacristy/pack"
	"sacristy/refs"
	"sacristy/root"
	"sacristy/shelf"
	"sacristy/walk"
)

// The words of the chapter, told once more, the plainest way: what anybody has is put together of packs, anew each time.

type twin struct {
	s     *shelf.Shelf
	r     api.Root
	packs map[string][]api.Held // by their directories and names
}

// first does acts up to the first one that is not OK.
func first(acts ...func() api.Errno) api.Errno {
	for _, a := range acts {
		if e := a(); e != api.OK {
			return e
		}
	}
	return api.OK
}

func isThere(s *shelf.Shelf, path string) bool {
	return slices.ContainsFunc(s.Files(), func(f api.File) bool { return f.Path == path })
}

func twinInit(s *shelf.Shelf) api.Errno {
	if s.Down() {
		return api.ErrDown
	}
	if isThere(s, "net/root") {
		return api.ErrThere
	}
	return first(
		func() api.Errno { return s.Write("net/root.new", []byte("net 0\npool 0\nforks 0\n")) },
		func() api.Errno { return s.Sync("net") },
		func() api.Errno { return s.Rename("net/root.new", "net/root") },
		func() api.Errno { return s.Sync("net") },
	)
}

func twinOpen(s *shelf.Shelf) (*twin, api.Errno) {
	b, e := s.Read("net/root")
	if e != api.OK {
		return nil, e
	}
	r, is := root.Get(b)
	if !is {
		return nil, api.ErrCorrupt
	}
	w := &twin{s, r, map[string][]api.Held{}}
	names := func(dir string, l []string) bool {
		for _, name := range l {
			held, e := depot.Load(s, dir, name)
			if e != api.OK {
				return false
			}
			w.packs[dir+"/"+name] = held
		}
		return true
	}
	if !names("pool", r.Pool) {
		return nil, api.ErrCorrupt
	}
	for _, f := range r.Forks {
		if !names("own", f.Packs) || walk.Sound(w.sees(f), refs.Tips(f.Refs)) != api.OK {
			return nil, api.ErrCorrupt
		}
	}
	e = first(
		func() api.Errno {
			if !isThere(s, "net/root.new") {
				return api.OK
			}
			return s.Remove("net/root.new")
		},
		w.sweepOwn, w.sweepPool,
		func() api.Errno { return s.Sync("net") },
		func() api.Errno { return s.Sync("own") },
		func() api.Errno { return s.Sync("pool") },
	)
	if e != api.OK {
		return nil, e
	}
	return w, api.OK
}

func (w *twin) sweepOwn() api.Errno {
	var all []string
	for _, f := range w.r.Forks {
		all = append(all, f.Packs...)
	}
	return depot.Sweep(w.s, "own", all)
}

func (w *twin) sweepPool() api.Errno { return depot.Sweep(w.s, "pool", w.r.Pool) }

func (w *twin) objects(dir string, names []string) []api.Held {
	var l []api.Held
	for _, name := range names {
		l = append(l, w.packs[dir+"/"+name]...)
	}
	return walk.Join(nil, l)
}

func (w *twin) pool() []api.Held { return w.objects("pool", w.r.Pool) }

func (w *twin) sees(f api.Fork) []api.Held {
	l := w.objects("own", f.Packs)
	if f.Linked {
		l = walk.Join(l, w.pool())
	}
	return l
}

func (w *twin) has(f api.Fork) []api.Held {
	come, _ := walk.Closure(w.sees(f), refs.Tips(f.Refs))
	return walk.Pick(w.sees(f), come)
}

func (w *twin) find(name string) (api.Fork, bool) {
	for _, f := range w.r.Forks {
		if f.Name == name {
			return f, true
		}
	}
	return api.Fork{}, false
}

func (w *twin) held(name string) ([]api.Held, api.Errno) {
	f, is := w.find(name)
	if !is {
		return nil, api.ErrNone
	}
	return w.has(f), api.OK
}

func contains(l []api.Held, id string) bool {
	return slices.ContainsFunc(l, func(h api.Held) bool { return h.Id == id })
}

// less is what a has, and b has not.
func less(a, b []api.Held) []api.Held {
	var l []api.Held
	for _, h := range a {
		if !contains(b, h.Id) {
			l = append(l, h)
		}
	}
	return l
}

// marked are marks of objects: of each linked fork a bit, if it has it.
func (w *twin) marked(l []api.Held) []int {
	marks := make([]int, len(l))
	bit := 1
	for _, f := range w.r.Forks {
		if !f.Linked {
			continue
		}
		all := w.has(f)
		for i, h := range l {
			if contains(all, h.Id) {
				marks[i] += bit
			}
		}
		bit *= 2
	}
	return marks
}

func (w *twin) apart(l []api.Held) []api.Entry { return island.Plan(l, w.marked(l), 4) }

func together(l []api.Held) []api.Entry { return island.Plan(l, make([]int, len(l)), 4) }

// twinChange is to another root, with A PACK of objects of which that is told the names: one, or none.
func (w *twin) change(dir string, l []api.Held, plan func([]api.Held) []api.Entry, other func(r *api.Root, packs []string)) api.Errno {
	next, _ := root.Get([]byte(lines(w.r)))
	next.Count++
	var name string
	var b []byte
	e := first(
		func() api.Errno {
			if len(l) > 512 {
				return api.ErrTooMany
			}
			var packs []string
			if len(l) > 0 {
				var e api.Errno
				if name, e = depot.Save(w.s, dir, plan(l)); e != api.OK {
					return e
				}
				packs = []string{name}
			}
			other(&next, packs)
			return api.OK
		},
		func() api.Errno {
			var is bool
			if b, is = root.Put(next); !is {
				return api.ErrTooMany
			}
			return api.OK
		},
		func() api.Errno { return w.s.Sync("own") },
		func() api.Errno { return w.s.Sync("pool") },
		func() api.Errno { return w.s.Write("net/root.new", b) },
		func() api.Errno { return w.s.Sync("net") },
		func() api.Errno { return w.s.Rename("net/root.new", "net/root") },
		func() api.Errno { return w.s.Sync("net") },
	)
	if e == api.ErrDown {
		return e
	}
	if e != api.OK {
		if isThere(w.s, "net/root.new") {
			w.s.Remove("net/root.new")
		}
		w.sweepOwn()
		w.sweepPool()
		return e
	}
	w.packs[dir+"/"+name] = l
	w.r = next
	w.sweepOwn()
	w.sweepPool()
	w.s.Sync("own")
	w.s.Sync("pool")
	return api.OK
}

// ofFork is a change of a fork that is there.
func ofFork(name string, other func(f *api.Fork, r *api.Root, packs []string)) func(*api.Root, []string) {
	return func(r *api.Root, packs []string) {
		for i := range r.Forks {
			if r.Forks[i].Name == name {
				other(&r.Forks[i], r, packs)
			}
		}
	}
}

func (w *twin) create(name, from string) api.Errno {
	if !root.Named(name) {
		return api.ErrArg
	}
	if _, is := w.find(name); is {
		return api.ErrThere
	}
	f, is := w.find(from)
	if from != "" && !is {
		return api.ErrNone
	}
	made := api.Fork{Name: name, Linked: true, Head: "heads/main"}
	var l []api.Held
	if from != "" {
		made.Head, made.Refs = f.Head, f.Refs
		l = less(w.has(f), w.pool())
	}
	return w.change("pool", l, pack.Whole, func(r *api.Root, packs []string) {
		r.Pool = append(r.Pool, packs...)
		r.Forks = append(r.Forks, made)
		slices.SortFunc(r.Forks, func(a, b api.Fork) int { return strings.Compare(a.Name, b.Name) })
	})
}

func (w *twin) delete(name string) api.Errno {
	if _, is := w.find(name); !is {
		return api.ErrNone
	}
	return w.change("", nil, nil, func(r *api.Root, _ []string) {
		r.Forks = slices.DeleteFunc(r.Forks, func(f api.Fork) bool { return f.Name == name })
	})
}

func (w *twin) detach(name string) api.Errno {
	f, is := w.find(name)
	if !is {
		return api.ErrNone
	}
	if !f.Linked {
		return api.ErrArg
	}
	return w.change("own", w.has(f), pack.Whole, ofFork(name, func(f *api.Fork, _ *api.Root, packs []string) {
		f.Packs, f.Linked = packs, false
	}))
}

func (w *twin) feed(name string) api.Errno {
	f, is := w.find(name)
	if !is {
		return api.ErrNone
	}
	if !f.Linked {
		return api.ErrArg
	}
	return w.change("pool", less(w.has(f), w.pool()), pack.Whole, ofFork(name, func(f *api.Fork, r *api.Root, packs []string) {
		f.Packs = nil
		r.Pool = append(r.Pool, packs...)
	}))
}

func (w *twin) repack(name string) api.Errno {
	if name == "" {
		return w.change("pool", w.pool(), w.apart, func(r *api.Root, packs []string) { r.Pool = packs })
	}
	f, is := w.find(name)
	if !is {
		return api.ErrNone
	}
	l := w.has(f)
	if f.Linked {
		l = less(l, w.pool())
	}
	return w.change("own", l, together, ofFork(name, func(f *api.Fork, _ *api.Root, packs []string) { f.Packs = packs }))
}

func (w *twin) prune() api.Errno {
	var l []api.Held
	for _, f := range w.r.Forks {
		if f.Linked {
			l = walk.Join(l, w.has(f))
		}
	}
	return w.change("pool", l, w.apart, func(r *api.Root, packs []string) {
		r.Pool = packs
		for i := range r.Forks {
			if r.Forks[i].Linked {
				r.Forks[i].Packs = nil
			}
		}
	})
}

func (w *twin) push(name string, u []api.Update, b []byte) (api.Errno, int) {
	f, is := w.find(name)
	if !is {
		return api.ErrNone, 0
	}
	now, e, at := refs.Apply(f.Refs, u)
	if e != api.OK {
		return e, at
	}
	var received []api.Held
	if len(b) > 0 {
		l, e := pack.Get(b)
		if e != api.OK {
			return api.ErrCorrupt, 0
		}
		objs, e := pack.Resolve(l, w.has(f))
		if e != api.OK {
			return e, 0
		}
		received = walk.Set(objs)
	}
	all := walk.Join(w.has(f), received)
	if e := walk.Sound(all, refs.Tips(now)); e != api.OK {
		return e, 0
	}
	come, _ := walk.Closure(all, refs.Tips(now))
	if len(come) > 512 {
		return api.ErrTooMany, 0
	}
	more := less(walk.Pick(received, come), w.sees(f))
	return w.change("own", more, pack.Whole, ofFork(name, func(f *api.Fork, _ *api.Root, packs []string) {
		f.Refs, f.Packs = now, append(f.Packs, packs...)
	})), 0
}

func (w *twin) fetch(name string, wants, haves []string) ([]byte, api.Errno) {
	f, is := w.find(name)
	if !is {
		return nil, api.ErrNone
	}
	sent, e := cut.Send(w.has(f), refs.Tips(f.Refs), wants, haves)
	if e != api.OK {
		return nil, e
	}
	return pack.Put(pack.Whole(walk.Pick(w.has(f), sent)))
}
