package root

import (
	"bytes"
	"errors"
)

// reader reads lines one by one; behind the first one that is wrong it reads no more.
type reader struct {
	rest []byte
	at   int   // how many were read
	err  error // what is wrong with the first one that is
}

// line has the next line taken by a function.
func (r *reader) line(take func(s string) error) {
	if r.err != nil {
		return
	}
	r.at++
	r.keep(r.next(take))
}

func (r *reader) next(take func(s string) error) error {
	if len(r.rest) == 0 {
		return errEnd
	}
	s, rest, ended := bytes.Cut(r.rest, []byte("\n"))
	if !ended {
		return errForm
	}
	r.rest = rest
	return take(string(s))
}

// keep keeps an error of the line that was read last, unless one ahead of it has one.
func (r *reader) keep(err error) {
	if r.err == nil && err != nil {
		r.err = &fault{r.at, err}
	}
}

// end is what is wrong with the lines, if no more of them should be left.
func (r *reader) end() error {
	if r.err != nil {
		return r.err
	}
	r.line(func(string) error { return errMore })
	if errors.Is(r.err, errEnd) {
		return nil
	}
	return r.err
}
