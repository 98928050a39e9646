package object

import "errors"

// What may be wrong, beneath what it is about.
var (
	errOther = errors.New("another word stands there")
	errWrong = errors.New("it may not be")
	errOver  = errors.New("more than may be")
)

// fault is an error, and what it is about: all that is wrong inside is told by one.
type fault struct {
	about string
	err   error
}

func (f *fault) Error() string { return f.about + ": " + f.err.Error() }

func (f *fault) Unwrap() error { return f.err }

// told is what came of a try, as the calls of the package tell it: all of it, or nothing.
func told[T any](v T, err error) (T, bool) {
	var f *fault
	if errors.As(err, &f) {
		var none T
		return none, false
	}
	return v, true
}

// need is an error, if what has to hold does not.
func need(holds bool, about string, err error) error {
	if holds {
		return nil
	}
	return &fault{about, err}
}

// within is an error with what it is about put ahead; none stays none.
func within(about string, err error) error {
	if err == nil {
		return nil
	}
	return &fault{about, err}
}
