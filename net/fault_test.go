package net

import (
	"errors"
	"testing"

	"sacristy/api"
	"sacristy/shelf"
)

func TestFault(t *testing.T) {
	err := wrap("sync of own", api.ErrFull)
	if err.Error() != "sync of own: sacristy: error 11" || !errors.Is(err, api.ErrFull) || wrap("sync of own", api.OK) != nil {
		t.Error(err)
	}
	bad := error(&rot{wrap("packs of a", api.ErrNone)})
	if bad.Error() != "no net: packs of a: sacristy: error 12" || !errors.Is(bad, api.ErrNone) {
		t.Error(bad)
	}
	for i, c := range []struct {
		err error
		no  api.Errno
	}{{nil, api.OK}, {err, api.ErrFull}, {&fault{"more", err}, api.ErrFull}, {api.ErrLack, api.ErrLack}, {bad, api.ErrCorrupt}, {&fault{"more", bad}, api.ErrCorrupt}} {
		if number(c.err) != c.no {
			t.Error(i, number(c.err))
		}
		if v, e := told("v", c.err); e != c.no || (v == "v") != (e == api.OK) || v != "v" && v != "" {
			t.Error(i, v, e)
		}
	}
}

// An error inside tells what was tried.
func TestTried(t *testing.T) {
	s := shelf.New(100)
	_, none := open(s)
	full := inRow(syncOf(s, ownDir), writeNew(s, make([]byte, 101)), syncOf(s, "?"))
	begin(s)
	n, err := open(s)
	if err != nil {
		t.Fatal(err)
	}
	_, lack := n.fork("a")
	arg := n.create("A", "")
	there := begin(s)
	s.Write(rootFile, nil)
	_, bad := open(s)
	s.Fuse(1)
	down := n.prune()
	for i, c := range []struct {
		err  error
		want string
	}{
		{none, "net/root: sacristy: error 12"}, {full, "write of net/root.new: sacristy: error 11"}, {lack, "fork a: sacristy: error 12"}, {arg, "name A: sacristy: error 1"},
		{there, "net/root: sacristy: error 91"}, {bad, "no net: net/root: sacristy: error 3"}, {down, "sync of pool: sacristy: error 13"},
	} {
		if c.err == nil || c.err.Error() != c.want {
			t.Error(i, c.err)
		}
	}
}

// Acts are done in a row up to the first that has an error, or all of them.
func TestActs(t *testing.T) {
	var done []string
	act1 := func(what string, e api.Errno) act {
		return act{what, func() api.Errno { done = append(done, what); return e }}
	}
	row := []act{act1("a", api.OK), act1("b", api.ErrFull), act1("c", api.ErrDown)}
	if err := inRow(row...); !errors.Is(err, api.ErrFull) || len(done) != 2 {
		t.Error(err, done)
	}
	whatever(row...)
	if len(done) != 5 || inRow() != nil || inRow(row[0]) != nil {
		t.Error(done)
	}
}
