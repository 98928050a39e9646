package shelf

import (
	"errors"

	"sacristy/api"
)

// fault is an error, and what it is about.
type fault struct {
	about string
	err   error
}

func (f *fault) Error() string { return f.about + ": " + f.err.Error() }

func (f *fault) Unwrap() error { return f.err }

// told is an error's number, as the calls of the package tell it.
func told(err error) api.Errno {
	no := api.OK
	errors.As(err, &no)
	return no
}
