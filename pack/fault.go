package pack

import (
	"errors"

	"sacristy/api"
	"sacristy/num"
)

// fault is an error, and the entry that has it.
type fault struct {
	at  int
	err error
}

func (f *fault) Error() string { return "entry " + num.Text(f.at) + ": " + f.err.Error() }

func (f *fault) Unwrap() error { return f.err }

// told is what came of a try, as the calls of the package tell it: all of it, or nothing, and an error's number.
func told[T any](l []T, err error) ([]T, api.Errno) {
	var e api.Errno
	if errors.As(err, &e) {
		return nil, e
	}
	return l, api.OK
}
