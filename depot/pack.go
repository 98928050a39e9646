package depot

import (
	"bytes"

	"sacristy/api"
	"sacristy/digest"
	"sacristy/index"
	"sacristy/object"
	"sacristy/pack"
	"sacristy/shelf"
	"sacristy/walk"
)

// save puts the files of entries in a directory: the name of their pack.
func save(s *shelf.Shelf, dir string, l []api.Entry) (string, error) {
	_, x, err := resolved(l)
	if err != nil {
		return "", err
	}
	b, e := pack.Put(l)
	if e != api.OK {
		return "", &fault{"bytes", e}
	}
	name := digest.Name(b)
	return name, write(s, dir, name, both{b, x})
}

// load is the objects of a pack's files, as they were saved.
func load(s *shelf.Shelf, dir string, name string) ([]api.Held, error) {
	if !digest.Named(name) {
		return nil, &fault{name, api.ErrArg}
	}
	b, err := read(s, dir, name)
	if err != nil {
		return nil, err
	}
	objs, err := opened(name, b)
	if err != nil {
		return nil, &rot{name, err}
	}
	return walk.Set(objs), nil
}

// loadAll is the objects of packs, up to the first one that has an error.
func loadAll(s *shelf.Shelf, dir string, names []string) ([]api.Held, error) {
	var l []api.Held
	for _, name := range names {
		more, err := load(s, dir, name)
		if err != nil {
			return nil, err
		}
		l = walk.Join(l, more)
	}
	return l, nil
}

// opened is the objects of a pack's bytes, if they are by that name, and the index is theirs.
func opened(name string, b both) ([]api.Obj, error) {
	if digest.Name(b[0]) != name {
		return nil, &fault{"name", api.ErrCorrupt}
	}
	l, e := pack.Get(b[0])
	if e != api.OK {
		return nil, &fault{"bytes", e}
	}
	objs, x, err := resolved(l)
	if err != nil {
		return nil, err
	}
	if !bytes.Equal(x, b[1]) {
		return nil, &fault{"index", api.ErrCorrupt}
	}
	return objs, nil
}

// resolved is what entries come to by themselves, and the index of that.
func resolved(l []api.Entry) ([]api.Obj, []byte, error) {
	objs, e := pack.Resolve(l, nil)
	if e != api.OK {
		return nil, nil, &fault{"entries", e}
	}
	var ids []string
	for _, o := range objs {
		ids = append(ids, object.Id(o))
	}
	x, e := index.Put(ids)
	return objs, x, wrap("index", e)
}
