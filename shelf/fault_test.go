package shelf

import (
	"errors"
	"testing"

	"sacristy/api"
)

func TestFault(t *testing.T) {
	err := error(&fault{"a/b", &fault{"disk", api.ErrFull}})
	if err.Error() != "a/b: disk: sacristy: error 11" || !errors.Is(err, api.ErrFull) {
		t.Error(err)
	}
	if told(err) != api.ErrFull || told(nil) != api.OK {
		t.Error(told(err), told(nil))
	}
}
