package pack

import (
	"errors"
	"testing"

	"sacristy/api"
)

func TestFault(t *testing.T) {
	err := error(&fault{7, api.ErrLack})
	if err.Error() != "entry 7: sacristy: error 51" || !errors.Is(err, api.ErrLack) || errors.Is(err, api.ErrArg) {
		t.Error(err)
	}
	for _, c := range []struct {
		err error
		no  api.Errno
		n   int
	}{{nil, api.OK, 2}, {err, api.ErrLack, 0}, {&fault{1, err}, api.ErrLack, 0}, {api.ErrCorrupt, api.ErrCorrupt, 0}} {
		if l, no := told([]int{1, 2}, c.err); no != c.no || len(l) != c.n {
			t.Error(l, no)
		}
	}
}

// An error tells the entry that has it.
func TestAt(t *testing.T) {
	blob, wrong := api.Entry{Kind: api.Blob}, api.Entry{Kind: api.Tree, Data: "x"}
	lacking := api.Entry{Kind: api.Base, Base: "0123456789abcdef0123456789abcdef0123456789abcdef0123456789abcdef"}
	resolve := func(l ...api.Entry) error {
		_, err := each(l, nil, func(m made) int { return m.depth })
		return err
	}
	for i, c := range []struct {
		err error
		at  int
		no  api.Errno
	}{
		{check([]api.Entry{blob, {}}, api.ErrArg), 1, api.ErrArg},
		{check(make([]api.Entry, 513), api.ErrArg), 512, api.ErrArg},
		{resolve(blob, blob, lacking, lacking), 2, api.ErrLack},
		{resolve(lacking, blob, wrong), 2, api.ErrCorrupt},
		{resolve(blob, api.Entry{Kind: 5}), 1, api.ErrArg},
	} {
		var f *fault
		if !errors.As(c.err, &f) || f.at != c.at || !errors.Is(c.err, c.no) {
			t.Error(i, c.err)
		}
	}
}
