package object

import (
	"errors"
	"testing"
)

func TestFault(t *testing.T) {
	err := within("tree", &fault{item(3), errOver})
	if err.Error() != "tree: item 3: more than may be" || !errors.Is(err, errOver) || errors.Is(err, errWrong) {
		t.Error(err)
	}
	if within("tree", nil) != nil || need(true, "x", errWrong) != nil || !errors.Is(need(false, "x", errWrong), errWrong) {
		t.Error("an error where there is none, or none where there is one")
	}
	if v, is := told(7, err); v != 0 || is {
		t.Error(v, is)
	}
	if v, is := told(7, nil); v != 7 || !is {
		t.Error(v, is)
	}
}
