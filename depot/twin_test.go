package depot_test

import (
	"bytes"
	"crypto/sha256"
	"encoding/hex"
	"slices"
	"strings"

	"sacristy/api"
	"sacristy/index"
	"sacristy/object"
	"sacristy/pack"
	"sacristy/shelf"
	"sacristy/walk"
)

// The words of the chapter, told once more, the plainest way.

func nameOf(b []byte) string {
	sum := sha256.Sum256(b)
	return hex.EncodeToString(sum[:])
}

func isName(s string) bool {
	for _, c := range []byte(s) {
		if !strings.Contains("0123456789abcdef", string([]byte{c})) {
			return false
		}
	}
	return len(s) == 64
}

func idsOf(l []api.Obj) []string {
	var ids []string
	for _, o := range l {
		ids = append(ids, object.Id(o))
	}
	return ids
}

func twinWrite(s *shelf.Shelf, path string, b []byte) api.Errno {
	if old, e := s.Read(path); e != api.OK || string(old) != string(b) {
		return s.Write(path, b)
	}
	return api.OK
}

func twinSave(s *shelf.Shelf, dir string, l []api.Entry) (string, api.Errno) {
	objs, e := pack.Resolve(l, nil)
	if e != api.OK {
		return "", e
	}
	x, e := index.Put(idsOf(objs))
	if e != api.OK {
		return "", e
	}
	b, e := pack.Put(l)
	if e != api.OK {
		return "", e
	}
	name := nameOf(b)
	if e := twinWrite(s, dir+"/"+name+".pack", b); e != api.OK {
		return "", e
	}
	if e := twinWrite(s, dir+"/"+name+".idx", x); e != api.OK {
		return "", e
	}
	return name, api.OK
}

func twinLoad(s *shelf.Shelf, dir string, name string) ([]api.Held, api.Errno) {
	if !isName(name) {
		return nil, api.ErrArg
	}
	b, e := s.Read(dir + "/" + name + ".pack")
	if e != api.OK {
		return nil, e
	}
	x, e := s.Read(dir + "/" + name + ".idx")
	if e != api.OK {
		return nil, e
	}
	l, e1 := pack.Get(b)
	objs, e2 := pack.Resolve(l, nil)
	want, e3 := index.Put(idsOf(objs))
	if nameOf(b) != name || e1 != api.OK || e2 != api.OK || e3 != api.OK || !bytes.Equal(x, want) {
		return nil, api.ErrCorrupt
	}
	return walk.Set(objs), api.OK
}

func twinAll(s *shelf.Shelf, dir string, names []string) ([]api.Held, api.Errno) {
	var l []api.Held
	for _, name := range names {
		more, e := twinLoad(s, dir, name)
		if e != api.OK {
			return nil, e
		}
		l = append(l, more...)
	}
	return walk.Join(nil, l), api.OK
}

func twinSweep(s *shelf.Shelf, dir string, names []string) api.Errno {
	if s.Down() {
		return api.ErrDown
	}
	var away []string
	for _, f := range s.Files() {
		in, file, _ := strings.Cut(f.Path, "/")
		if in == dir && !slices.ContainsFunc(names, func(n string) bool { return file == n+".pack" || file == n+".idx" }) {
			away = append(away, f.Path)
		}
	}
	slices.Sort(away)
	for _, path := range away {
		if e := s.Remove(path); e != api.OK {
			return e
		}
	}
	return api.OK
}
