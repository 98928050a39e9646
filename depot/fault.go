package depot

import (
	"errors"

	"sacristy/api"
)

// fault is an error, and what has it.
type fault struct {
	about string
	err   error
}

func (f *fault) Error() string { return f.about + ": " + f.err.Error() }

func (f *fault) Unwrap() error { return f.err }

// rot is a fault of a pack that stands on a shelf: its bytes are not those that were saved, by whichever error that is seen.
type rot struct {
	name string
	err  error
}

func (r *rot) Error() string { return "pack " + r.name + ": " + r.err.Error() }

func (r *rot) Unwrap() error { return r.err }

// wrap is a fault of what has an error, if it is one: a number of none would be an error too, once it is put in one.
func wrap(about string, e api.Errno) error {
	if e == api.OK {
		return nil
	}
	return &fault{about, e}
}

// told is what came of a try, as the calls of the package tell it: all of it, or nothing, and an error's number.
func told[T any](all T, err error) (T, api.Errno) {
	if err != nil {
		var none T
		return none, number(err)
	}
	return all, api.OK
}

// number is that of an error, as the calls of the package tell it: each kind of rot is one and the same.
func number(err error) api.Errno {
	var bad *rot
	if errors.As(err, &bad) {
		return api.ErrCorrupt
	}
	no := api.OK
	errors.As(err, &no)
	return no
}
