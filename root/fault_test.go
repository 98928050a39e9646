package root

import (
	"errors"
	"strings"
	"testing"
)

func TestFault(t *testing.T) {
	err := error(&fault{7, errWrong})
	if err.Error() != "line 7: it may not be" || !errors.Is(err, errWrong) || errors.Is(err, errEnd) {
		t.Error(err)
	}
	if need(true, errWrong) != nil || need(false, errWrong) != errWrong {
		t.Error("an error where there is none, or none where there is one")
	}
}

// The first line that is wrong is the one that is kept, with what is wrong with it.
func TestFirstWrong(t *testing.T) {
	a, b := strings.Repeat("a", 64), strings.Repeat("b", 64)
	good := []string{"net 3", "pool 2", a, b, "forks 2", "fork x linked heads/m 2 1", a + " heads/m", a + " tags/t", a, "fork y alone heads/n 0 0"}
	for i, c := range []struct {
		line int
		as   string
		err  error
		at   int
	}{
		{0, "not 3", errForm, 1},
		{0, "net 03", errForm, 1},
		{0, "net 1099511627776", nil, 0},
		{0, "net 1099511627777", errForm, 1},
		{1, "pool 25", errWrong, 2},
		{1, "pool 3", errWrong, 5}, // takes "forks 2" for a pack
		{1, "pool 1", errForm, 4},
		{2, "x", errWrong, 3},
		{3, a, errWrong, 4},
		{4, "forks 17", errWrong, 5},
		{4, "forks 1", errMore, 10},
		{4, "forks 3", errEnd, 11},
		{5, "fork x", errForm, 6},
		{5, "fork x open heads/m 2 1", errForm, 6},
		{5, "fork x linked tags/m 2 1", errWrong, 6},
		{5, "fork x linked heads/m 65 1", errWrong, 6},
		{5, "fork x linked heads/m 2 25", errWrong, 6},
		{5, "fork x linked heads/m 2 x", errForm, 6},
		{6, "x heads/m", errWrong, 7},
		{6, a + " tags/u", errWrong, 8},
		{7, "x", errWrong, 8},
		{8, "x", errWrong, 9},
		{9, "fork x alone heads/n 0 0", errWrong, 10},
		{9, "fork y alone heads/n 0 1", errEnd, 11},
		{9, "fork y alone heads/n 0 0\n", errMore, 11},
		{9, "fork y alone heads/n 0 0\nx", errMore, 11},
	} {
		lines := append([]string(nil), good...)
		lines[c.line] = c.as
		_, err := read([]byte(strings.Join(lines, "\n") + "\n"))
		var f *fault
		if c.err == nil {
			if err != nil {
				t.Error(i, err)
			}
		} else if !errors.Is(err, c.err) || !errors.As(err, &f) || f.line != c.at {
			t.Error(i, c.as, err)
		}
	}
	// Of several that are wrong too; and a line without its end is another fault than none.
	for text, want := range map[string]string{
		"":                           "line 1: there is none",
		"net 0":                      "line 1: it is written otherwise",
		"net x\npool x\n":            "line 1: it is written otherwise",
		"net 0\npool 25\nforks 17\n": "line 2: it may not be",
		"net 0\npool 0\nforks 0\nx":  "line 4: it is written otherwise",
		"net 0\npool 0\nforks 0\n\n": "line 4: it is one too many",
		"net 0\npool 0\n":            "line 3: there is none",
	} {
		if _, err := read([]byte(text)); err == nil || err.Error() != want {
			t.Errorf("%q: %v", text, err)
		}
	}
}
