package depot

import (
	"errors"
	"strings"
	"testing"

	"sacristy/api"
	"sacristy/shelf"
)

func TestFault(t *testing.T) {
	err := wrap("own/x", api.ErrFull)
	if err.Error() != "own/x: sacristy: error 11" || !errors.Is(err, api.ErrFull) || wrap("own/x", api.OK) != nil {
		t.Error(err)
	}
	bad := error(&rot{"x", wrap("index", api.ErrThere)})
	if bad.Error() != "pack x: index: sacristy: error 91" || !errors.Is(bad, api.ErrThere) {
		t.Error(bad)
	}
	for i, c := range []struct {
		err error
		no  api.Errno
	}{{nil, api.OK}, {err, api.ErrFull}, {&fault{"more", err}, api.ErrFull}, {api.ErrLack, api.ErrLack}, {bad, api.ErrCorrupt}, {&fault{"more", bad}, api.ErrCorrupt}} {
		if number(c.err) != c.no {
			t.Error(i, number(c.err))
		}
		if v, e := told("v", c.err); e != c.no || (v == "v") != (e == api.OK) || v != "v" && v != "" {
			t.Error(i, v, e)
		}
	}
}

// An error inside tells the file, or the pack, that has it.
func TestAbout(t *testing.T) {
	s := shelf.New(0)
	name := strings.Repeat("a", 64)
	path := "own/" + name
	_, lacking := load(s, "own", name)
	full := write(s, "own", name, both{[]byte("x"), nil})
	s = shelf.Of(0, []api.File{{Path: path + ".pack"}, {Path: path + ".idx"}})
	_, bad := load(s, "own", name)
	s.Fuse(1)
	down := sweep(s, "own", nil)
	for i, c := range []struct {
		err  error
		want string
	}{
		{lacking, path + ".pack: sacristy: error 12"}, {full, path + ".pack: sacristy: error 11"},
		{bad, "pack " + name + ": name: sacristy: error 3"}, {down, path + ".pack: sacristy: error 13"},
	} {
		if c.err == nil || c.err.Error() != c.want {
			t.Error(i, c.err)
		}
	}
}

// Who has enough of the paths is told no more of them.
func TestBroken(t *testing.T) {
	s := shelf.Of(0, []api.File{{Path: "own/a"}, {Path: "own/b"}})
	n := 0
	for range within(s, "own") {
		n++
		break
	}
	for i, path := range paths("own", "x") {
		n++
		if i != 0 || path != "own/x.pack" {
			t.Error(i, path)
		}
		break
	}
	if n != 2 {
		t.Error(n)
	}
}
