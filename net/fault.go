package net

import (
	"errors"

	"sacristy/api"
)

// fault is an error, and what was tried.
type fault struct {
	tried string
	err   error
}

func (f *fault) Error() string { return f.tried + ": " + f.err.Error() }

func (f *fault) Unwrap() error { return f.err }

// rot is a fault of what stands on a shelf: it is none of a net's, by whichever error that is seen.
type rot struct {
	err error
}

func (r *rot) Error() string { return "no net: " + r.err.Error() }

func (r *rot) Unwrap() error { return r.err }

// wrap is a fault of what was tried, if it has an error: a number of none would be an error too, once it is put in one.
func wrap(tried string, e api.Errno) error {
	if e == api.OK {
		return nil
	}
	return &fault{tried, e}
}

// told is what came of a call, as the package tells it: all of it, or nothing, and an error's number.
func told[T any](all T, err error) (T, api.Errno) {
	if err != nil {
		var none T
		return none, number(err)
	}
	return all, api.OK
}

// number is that of an error, as the package tells it: each kind of rot is one and the same.
func number(err error) api.Errno {
	var bad *rot
	if errors.As(err, &bad) {
		return api.ErrCorrupt
	}
	no := api.OK
	errors.As(err, &no)
	return no
}
