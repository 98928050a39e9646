package depot

import (
	"bytes"
	"iter"
	"strings"

	"sacristy/api"
	"sacristy/shelf"
)

// both are the bytes of a pack, and of its index.
type both [2][]byte

// paths tells the files of a pack's name, as their bytes stand in both.
func paths(dir string, name string) iter.Seq2[int, string] {
	return func(yield func(int, string) bool) {
		for i, end := range [2]string{".pack", ".idx"} {
			if !yield(i, dir+"/"+name+end) {
				return
			}
		}
	}
}

// within tells the paths of a directory's files, rising. It tells those that were there when it began, so that they can be removed on the way.
func within(s *shelf.Shelf, dir string) iter.Seq[string] {
	return func(yield func(string) bool) {
		for _, f := range s.Files() {
			if strings.HasPrefix(f.Path, dir+"/") && !yield(f.Path) {
				return
			}
		}
	}
}

// write has a pack's files be there. What is there already is left alone: an act more is one more that may be lost.
func write(s *shelf.Shelf, dir string, name string, b both) error {
	for i, path := range paths(dir, name) {
		if old, e := s.Read(path); e == api.OK && bytes.Equal(old, b[i]) {
			continue
		}
		if err := wrap(path, s.Write(path, b[i])); err != nil {
			return err
		}
	}
	return nil
}

// read is the bytes of a pack's files.
func read(s *shelf.Shelf, dir string, name string) (both, error) {
	var b both
	for i, path := range paths(dir, name) {
		got, e := s.Read(path)
		if e != api.OK {
			return both{}, &fault{path, e}
		}
		b[i] = got
	}
	return b, nil
}

// sweep removes a directory's files, but for those of the packs of names.
func sweep(s *shelf.Shelf, dir string, names []string) error {
	// Without power nothing is swept, whether or not anything would have to be.
	if s.Down() {
		return &fault{dir, api.ErrDown}
	}
	times := map[string]int{}
	for _, name := range names {
		for _, path := range paths(dir, name) {
			times[path]++
		}
	}
	for path := range within(s, dir) {
		if times[path] > 0 {
			continue
		}
		if err := wrap(path, s.Remove(path)); err != nil {
			return err
		}
	}
	return nil
}
