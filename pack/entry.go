package pack

import (
	"sacristy/api"
	"sacristy/digest"
	"sacristy/num"
)

const (
	magic    = "PAKS"
	nameSize = 64
	sumSize  = 32
)

// check is an error of this number, if these may not be a pack's entries.
func check(l []api.Entry, no api.Errno) error {
	if len(l) > api.MaxObjects {
		return &fault{api.MaxObjects, no}
	}
	for at, e := range l {
		if len(e.Data) > api.MaxData || !stands(at, e) {
			return &fault{at, no}
		}
	}
	return nil
}

// stands tells whether an entry at a place has what its kind stands on, and nothing beside.
func stands(at int, e api.Entry) bool {
	switch e.Kind {
	case api.Blob, api.Tree, api.Commit, api.Tag:
		return e.Back == 0 && e.Base == ""
	case api.Back:
		return 1 <= e.Back && e.Back <= at && e.Base == ""
	case api.Base:
		return e.Back == 0 && digest.Named(e.Base)
	}
	return false
}

// written are entries' bytes. They are counted as they come, as entries may have far more than a file may.
func written(l []api.Entry) ([]byte, error) {
	if err := check(l, api.ErrArg); err != nil {
		return nil, err
	}
	b := append([]byte(magic), num.Put(len(l))...)
	for at, e := range l {
		b = putEntry(b, e)
		if len(b)+sumSize > api.MaxFile {
			return nil, &fault{at, api.ErrTooMany}
		}
	}
	sum := digest.Sum(b)
	return append(b, sum[:]...), nil
}

// putEntry puts an entry behind a pack's bytes.
func putEntry(b []byte, e api.Entry) []byte {
	b = append(b, byte(e.Kind))
	b = append(b, num.Put(len(e.Data))...)
	if e.Kind == api.Back {
		b = append(b, num.Put(e.Back)...)
	}
	// Of all other kinds than that of Base there is none.
	b = append(b, e.Base...)
	return append(b, e.Data...)
}
