package root

import (
	"errors"

	"sacristy/num"
)

// What may be wrong with a line.
var (
	errEnd   = errors.New("there is none")
	errMore  = errors.New("it is one too many")
	errForm  = errors.New("it is written otherwise")
	errWrong = errors.New("it may not be")
)

// fault is an error, and which line has it, from 1 on.
type fault struct {
	line int
	err  error
}

func (f *fault) Error() string { return "line " + num.Text(f.line) + ": " + f.err.Error() }

func (f *fault) Unwrap() error { return f.err }

// need is an error, if what has to hold does not.
func need(holds bool, err error) error {
	if holds {
		return nil
	}
	return err
}
