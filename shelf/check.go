package shelf

import "sacristy/api"

// mayWrite is the directory of a path to which so many bytes may be written.
func (s *Shelf) mayWrite(path string, size int) (string, error) {
	dir, err := directory(path)
	if err != nil {
		return "", err
	}
	old, there := s.files[path]
	// A crash may have kept more files than MaxFiles: then there is no room for a new one either.
	if size > api.MaxFile || !there && len(s.files) >= api.MaxFiles {
		return "", &fault{path, api.ErrTooMany}
	}
	if s.files.size()-len(old)+size > s.room {
		return "", &fault{path, api.ErrFull}
	}
	return dir, nil
}

// mayRename is the directory of two paths, if the first one's file may be the second one's.
func (s *Shelf) mayRename(from string, to string) (string, error) {
	// What is wrong with both paths comes ahead of whether the first is there.
	dir, err := directory(to)
	if err != nil {
		return "", err
	}
	old, err := directory(from)
	if err != nil {
		return "", err
	}
	if old != dir {
		return "", &fault{to, api.ErrArg}
	}
	return s.there(from)
}

// there is the directory of a path whose file is there.
func (s *Shelf) there(path string) (string, error) {
	dir, err := directory(path)
	if err != nil {
		return "", err
	}
	if _, there := s.files[path]; !there {
		return "", &fault{path, api.ErrNone}
	}
	return dir, nil
}
