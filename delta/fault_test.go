package delta

import (
	"errors"
	"testing"

	"sacristy/api"
)

func TestFault(t *testing.T) {
	err := wrong("copy")
	if err.Error() != "copy: sacristy: error 3" || !errors.Is(err, api.ErrCorrupt) || errors.Is(err, api.ErrArg) {
		t.Error(err)
	}
	if told(err) != api.ErrCorrupt || told(&fault{"step", err}) != api.ErrCorrupt || told(nil) != api.OK {
		t.Error(told(err), told(nil))
	}
}
