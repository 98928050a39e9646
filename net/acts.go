package net

import (
	"sacristy/api"
	"sacristy/depot"
	"sacristy/shelf"
)

// Where on a shelf a net stands.
const (
	rootDir  = "net"
	rootFile = "net/root"
	newFile  = "net/root.new"
	poolDir  = "pool"
	ownDir   = "own"
)

// act is something to be done on a shelf, and how an error of it is called.
type act struct {
	what string
	do   func() api.Errno
}

// inRow does acts one behind the other, up to the first one that has an error.
func inRow(acts ...act) error {
	for _, a := range acts {
		if err := wrap(a.what, a.do()); err != nil {
			return err
		}
	}
	return nil
}

// whatever does all acts, whatever they answer.
func whatever(acts ...act) {
	for _, a := range acts {
		a.do()
	}
}

// syncOf has all that was done in a directory stay.
func syncOf(s *shelf.Shelf, dir string) act {
	return act{"sync of " + dir, func() api.Errno { return s.Sync(dir) }}
}

// writeNew puts the bytes of a root beside the one that is there.
func writeNew(s *shelf.Shelf, b []byte) act {
	return act{"write of " + newFile, func() api.Errno { return s.Write(newFile, b) }}
}

// renameNew has what was put beside the root be it.
func renameNew(s *shelf.Shelf) act {
	return act{"rename to " + rootFile, func() api.Errno { return s.Rename(newFile, rootFile) }}
}

// removeNew removes what was put beside the root, if it is there: a fuse burns by a Remove of nothing, too.
func removeNew(s *shelf.Shelf) act {
	return act{"remove of " + newFile, func() api.Errno {
		if _, e := s.Read(newFile); e != api.OK {
			return api.OK
		}
		return s.Remove(newFile)
	}}
}

// sweepOwn removes what is no fork's; two forks may have one pack.
func sweepOwn(s *shelf.Shelf, r api.Root) act {
	return act{"sweep of " + ownDir, func() api.Errno {
		var names []string
		for _, f := range r.Forks {
			names = append(names, f.Packs...)
		}
		return depot.Sweep(s, ownDir, names)
	}}
}

// sweepPool removes what is not the pool's.
func sweepPool(s *shelf.Shelf, r api.Root) act {
	return act{"sweep of " + poolDir, func() api.Errno { return depot.Sweep(s, poolDir, r.Pool) }}
}
