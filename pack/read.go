package pack

import (
	"sacristy/api"
	"sacristy/digest"
	"sacristy/num"
)

// reader is bytes that are left to be read, and whether some were not there as they had to be: from then on nothing is left.
type reader struct {
	left []byte
	bad  bool
}

// read is the entries of bytes.
func read(b []byte) ([]api.Entry, error) {
	if len(b) < sumSize || len(b) > api.MaxFile {
		return nil, api.ErrCorrupt
	}
	ahead, sum := b[:len(b)-sumSize], b[len(b)-sumSize:]
	l, err := readEntries(ahead)
	if err != nil {
		return nil, err
	}
	if digest.Sum(ahead) != [sumSize]byte(sum) {
		return nil, api.ErrCorrupt
	}
	return l, nil
}

// readEntries are those of bytes without their sum.
func readEntries(b []byte) ([]api.Entry, error) {
	r := &reader{left: b}
	head := r.text(len(magic))
	count := r.number()
	if head != magic || r.bad {
		return nil, api.ErrCorrupt
	}
	// No room is made ahead for as many as are said to come: nothing need stand behind the number.
	var l []api.Entry
	for at := range count {
		l = append(l, r.entry())
		if r.bad {
			return nil, &fault{at, api.ErrCorrupt}
		}
	}
	if len(r.left) > 0 {
		return nil, &fault{count, api.ErrCorrupt}
	}
	return l, check(l, api.ErrCorrupt)
}

func (r *reader) entry() api.Entry {
	e := api.Entry{Kind: r.byte()}
	size := r.number()
	switch e.Kind {
	case api.Back:
		e.Back = r.number()
	case api.Base:
		e.Base = r.text(nameSize)
	}
	e.Data = r.text(size)
	return e
}

func (r *reader) byte() int {
	s := r.text(1)
	if r.bad {
		return 0
	}
	return int(s[0])
}

func (r *reader) number() int {
	n, k, is := num.Get(r.left)
	if !is {
		r.fail()
		return 0
	}
	r.left = r.left[k:]
	return n
}

// text is so many bytes.
func (r *reader) text(n int) string {
	if n > len(r.left) {
		r.fail()
		return ""
	}
	s := string(r.left[:n])
	r.left = r.left[n:]
	return s
}

func (r *reader) fail() { r.left, r.bad = nil, true }
