package pack

import (
	"sacristy/api"
	"sacristy/delta"
	"sacristy/num"
	"sacristy/object"
	"sacristy/walk"
)

// made is what an entry is resolved to, if it is there yet: an object, and how many deltas it stands on.
type made struct {
	there bool
	obj   api.Obj
	depth int
}

// work is entries that are being resolved: what came of each, and, if any are asked for by their names, which are the first of these, and what is there beside them.
type work struct {
	l     []api.Entry
	made  []made
	asked bool
	first map[string]int
	have  map[string]made
}

// each is what is asked of all that entries are resolved to.
func each[T any](l []api.Entry, have []api.Held, of func(made) T) ([]T, error) {
	if err := check(l, api.ErrArg); err != nil {
		return nil, err
	}
	w := workOf(l, have)
	if err := w.all(); err != nil {
		return nil, err
	}
	var out []T
	for _, m := range w.made {
		out = append(out, of(m))
	}
	return out, nil
}

func workOf(l []api.Entry, have []api.Held) *work {
	names := bases(l)
	w := &work{l, make([]made, len(l)), len(names) > 0, map[string]int{}, map[string]made{}}
	// Join, as of several of one Id the first one counts alone.
	for _, h := range walk.Join(nil, walk.Pick(have, names)) {
		w.have[h.Id] = made{there: true, obj: h.Obj}
	}
	return w
}

// bases are the names that entries are made of.
func bases(l []api.Entry) []string {
	var names []string
	for _, e := range l {
		if e.Kind == api.Base {
			names = append(names, e.Base)
		}
	}
	return names
}

// all goes round by round, till one resolves none.
func (w *work) all() error {
	for more := true; more; {
		some, err := w.round()
		if err != nil {
			return err
		}
		more = some
	}
	for at, m := range w.made {
		if !m.there {
			return &fault{at, api.ErrLack}
		}
	}
	return nil
}

// round resolves each entry that can be, from the first to the last one, and tells whether there was any.
func (w *work) round() (bool, error) {
	some := false
	for at, e := range w.l {
		if w.made[at].there {
			continue
		}
		m, err := resolved(e, func() made { return w.base(at) })
		if err != nil {
			return false, &fault{at, err}
		}
		if !m.there {
			continue
		}
		some = true
		w.keep(at, m)
	}
	return some, nil
}

// keep has an entry be resolved. It is kept by its name too, if it is the first one of that: one that stands behind it may have been there in a round before.
func (w *work) keep(at int, m made) {
	w.made[at] = m
	if !w.asked {
		return // sums are dear
	}
	id := object.Id(m.obj)
	if first, is := w.first[id]; !is || at < first {
		w.first[id] = at
	}
}

// base is what an entry is made of, as far as it is there yet.
func (w *work) base(at int) made {
	e := w.l[at]
	if e.Kind == api.Back {
		return w.made[at-e.Back]
	}
	if first, is := w.first[e.Base]; is {
		return w.made[first]
	}
	return w.have[e.Base]
}

// resolved is what an entry is resolved to: nothing, if its base is not there yet.
func resolved(e api.Entry, base func() made) (made, error) {
	m := made{true, api.Obj{Kind: e.Kind, Data: e.Data}, 0}
	switch e.Kind {
	case api.Back, api.Base:
		of := base()
		if !of.there {
			return made{}, nil
		}
		text, err := applied(of.obj.Data, e.Data)
		if err != nil {
			return made{}, err
		}
		m = made{true, api.Obj{Kind: of.obj.Kind, Data: text}, of.depth + 1}
		fallthrough
	default:
		if !object.Right(m.obj) {
			return made{}, api.ErrCorrupt
		}
	}
	if m.depth > api.MaxChain {
		return made{}, api.ErrTooMany
	}
	return m, nil
}

// applied is the text that a delta makes. One that says that it makes more than an object may have is refused unmade, as few bytes may make very many.
func applied(base string, d string) (string, error) {
	b := []byte(d)
	_, k, _ := num.Get(b)
	if n, _, _ := num.Get(b[k:]); n > api.MaxData {
		return "", api.ErrCorrupt
	}
	text, e := delta.Apply(base, d)
	if e != api.OK {
		return "", e
	}
	return text, nil
}
