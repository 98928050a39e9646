// Package shelf is layer 1: see shared/doc/01-shelf.md.
package shelf

import (
	"bytes"
	"errors"
	"maps"
	"slices"

	"sacristy/api"
)

// noFuse is the fuse of a shelf that has none.
const noFuse = -1

// Shelf is files in directories, of which what was not synced may be lost, each act by itself.
type Shelf struct {
	files  table
	synced table
	loose  []act
	room   int
	acts   int
	fuse   int
	down   bool
}

// New is one without files, of so many bytes.
func New(room int) *Shelf { return Of(room, nil) }

// Of is one of files, all synced; nil, if they may not be those of a shelf.
func Of(room int, files []api.File) *Shelf {
	if len(files) > api.MaxFiles {
		return nil
	}
	synced := table{}
	for _, f := range files {
		_, err := directory(f.Path)
		_, twice := synced[f.Path]
		if err != nil || twice || len(f.Data) > api.MaxFile {
			return nil
		}
		synced[f.Path] = bytes.Clone(f.Data)
	}
	return &Shelf{files: maps.Clone(synced), synced: synced, room: room, fuse: noFuse}
}

// Write has a file be there, with these bytes.
func (s *Shelf) Write(path string, b []byte) api.Errno {
	return s.do(func() error {
		dir, err := s.mayWrite(path, len(b))
		if err != nil {
			return err
		}
		s.add(act{dir, write(path, bytes.Clone(b))})
		return nil
	})
}

// Rename has the file of one path be that of another one of its directory.
func (s *Shelf) Rename(from string, to string) api.Errno {
	return s.do(func() error {
		dir, err := s.mayRename(from, to)
		if err != nil {
			return err
		}
		s.add(act{dir, rename(from, to)})
		return nil
	})
}

// Remove has a file not be there.
func (s *Shelf) Remove(path string) api.Errno {
	return s.do(func() error {
		dir, err := s.there(path)
		if err != nil {
			return err
		}
		s.add(act{dir, remove(path)})
		return nil
	})
}

// Sync has all loose acts of a directory stay, whatever crashes.
func (s *Shelf) Sync(dir string) api.Errno {
	return s.do(func() error {
		if !isPart(dir) {
			return &fault{dir, api.ErrArg}
		}
		var rest []act
		for _, a := range s.loose {
			if a.dir == dir {
				a.play(s.synced)
			} else {
				rest = append(rest, a)
			}
		}
		s.loose = rest
		return nil
	})
}

// Read is a file's bytes. It is no act: it needs the power, but no fuse burns by it.
func (s *Shelf) Read(path string) ([]byte, api.Errno) {
	if s.down {
		return nil, api.ErrDown
	}
	if _, err := s.there(path); err != nil {
		return nil, told(err)
	}
	return bytes.Clone(s.files[path]), api.OK
}

// Files are all files, by rising paths.
func (s *Shelf) Files() []api.File {
	l := make([]api.File, 0, len(s.files))
	for _, path := range slices.Sorted(maps.Keys(s.files)) {
		l = append(l, api.File{Path: path, Data: bytes.Clone(s.files[path])})
	}
	return l
}

// Used is how many bytes all files have.
func (s *Shelf) Used() int { return s.files.size() }

// Acts is how many acts were done.
func (s *Shelf) Acts() int { return s.acts }

// Loose is how many of the acts are not synced.
func (s *Shelf) Loose() int { return len(s.loose) }

// Fuse has the power go ahead of the act behind n more; below 0 there is no fuse.
func (s *Shelf) Fuse(n int) { s.fuse = max(n, noFuse) }

// Down tells whether the power is gone.
func (s *Shelf) Down() bool { return s.down }

// Crash keeps those of the loose acts at whose place keep is true, and brings the power back.
func (s *Shelf) Crash(keep []bool) {
	for i, a := range s.loose {
		if i < len(keep) && keep[i] {
			a.play(s.synced)
		}
	}
	s.files = maps.Clone(s.synced)
	s.loose = nil
	s.fuse = noFuse
	s.down = false
}

// do does an act, if there is power for it; only one without an error counts, and burns the fuse.
func (s *Shelf) do(try func() error) api.Errno {
	err := s.power()
	if err == nil {
		err = try()
	}
	if errors.Is(err, api.ErrDown) {
		s.down = true
	}
	if err == nil {
		s.acts++
		s.burn()
	}
	return told(err)
}

// power is an error, if there is none for one more act.
func (s *Shelf) power() error {
	if s.down || s.fuse == 0 {
		return &fault{"power", api.ErrDown}
	}
	return nil
}

func (s *Shelf) burn() {
	if s.fuse != noFuse {
		s.fuse--
	}
}

// add plays an act on the files as they are: those that are synced have to wait for it.
func (s *Shelf) add(a act) {
	a.play(s.files)
	s.loose = append(s.loose, a)
}
