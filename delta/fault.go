package delta

import (
	"errors"

	"sacristy/api"
)

// fault is an error, and what it is about: all that is wrong inside is told by one.
type fault struct {
	about string
	err   error
}

func (f *fault) Error() string { return f.about + ": " + f.err.Error() }

func (f *fault) Unwrap() error { return f.err }

// wrong is what comes of bytes that are no delta, by what they are no such thing.
func wrong(about string) error { return &fault{about, api.ErrCorrupt} }

// told is an error's number, as the calls of the package tell it.
func told(err error) api.Errno {
	if errors.Is(err, api.ErrCorrupt) {
		return api.ErrCorrupt
	}
	return api.OK
}
