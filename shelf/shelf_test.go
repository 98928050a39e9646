package shelf_test

import (
	"math"
	"strconv"
	"strings"
	"testing"

	"sacristy/api"
	"sacristy/shelf"
)

// show is a shelf's files as a text.
func show(s *shelf.Shelf) string { return showFiles(s.Files()) }

func showFiles(l []api.File) string {
	var b strings.Builder
	for _, f := range l {
		b.WriteString(f.Path + "=" + string(f.Data) + " ")
	}
	return b.String()
}

// want checks an act's answer.
func want(t *testing.T, what string, got api.Errno, want api.Errno) {
	t.Helper()
	if got != want {
		t.Errorf("%s: got %d, want %d", what, got, want)
	}
}

// state is all that a shelf tells of itself.
func state(s *shelf.Shelf) string {
	return show(s) + strconv.Itoa(s.Used()) + " " + strconv.Itoa(s.Acts()) + " " + strconv.Itoa(s.Loose()) + " " + strconv.FormatBool(s.Down())
}

func wantState(t *testing.T, what string, s *shelf.Shelf, want string) {
	t.Helper()
	if got := state(s); got != want {
		t.Errorf("%s: got %q, want %q", what, got, want)
	}
}

// many is n files of one byte each.
func many(n int) []api.File {
	var l []api.File
	for i := range n {
		l = append(l, api.File{Path: "d/f" + strconv.Itoa(i), Data: []byte("1")})
	}
	return l
}

var long = strings.Repeat("n", api.MaxName)

// noPaths are texts that are no path.
var noPaths = []string{
	"", "/", "a", "a/", "/a", "//", "a//b", "a/b/", "/a/b", "a/b/c", "A/b", "a/B", "a_b/c", "a/b c", "a/b\n", "a/b\x00", "a/é", "é/a", "a\\b", "a/b:",
	"a/`", "a/{", "a/@", "a/[", "a/,", "a/\xff", "`/a", "{/a", long + "n/a", "a/" + long + "n", strings.Repeat("a/", 200),
}

// paths are texts that are one.
var paths = []string{"a/b", "a/a", "0/9", "z/-", "./.", "../..", "-/-", "a.b-c/0.9-z", long + "/" + long, long + "/a", "a/" + long}

// P1.1, A1
func TestNewIsEmpty(t *testing.T) {
	for _, room := range []int{0, 5, -1, math.MaxInt, math.MinInt} {
		wantState(t, "new", shelf.New(room), "0 0 0 false")
	}
}

// P1.1, A1
func TestOfRefuses(t *testing.T) {
	for _, p := range noPaths {
		if shelf.Of(100, []api.File{{Path: p}}) != nil {
			t.Errorf("%q is no path", p)
		}
	}
	for what, l := range map[string][]api.File{
		"two are one": {{Path: "a/b"}, {Path: "a/c"}, {Path: "a/b", Data: []byte("1")}},
		"too many":    many(api.MaxFiles + 1),
		"too long":    {{Path: "a/b", Data: make([]byte, api.MaxFile+1)}},
		"a late one":  {{Path: "a/b"}, {Path: "a"}},
	} {
		if shelf.Of(1<<30, l) != nil {
			t.Error(what)
		}
	}
}

// P1.1, A1
func TestOfTakes(t *testing.T) {
	for _, p := range paths {
		if s := shelf.Of(0, []api.File{{Path: p}}); s == nil {
			t.Errorf("%q is a path", p)
		}
	}
	s := shelf.Of(3, []api.File{{Path: "b/x", Data: []byte("12345")}, {Path: "a/y"}})
	wantState(t, "more than the room", s, "a/y= b/x=12345 5 0 0 false")
	s.Crash(nil)
	wantState(t, "all are synced", s, "a/y= b/x=12345 5 0 0 false")
	if s := shelf.Of(0, many(api.MaxFiles)); s == nil || len(s.Files()) != api.MaxFiles {
		t.Error("MaxFiles may be")
	}
	if s := shelf.Of(0, []api.File{{Path: "a/b", Data: make([]byte, api.MaxFile)}}); s == nil || s.Used() != api.MaxFile {
		t.Error("MaxFile may be")
	}
	want(t, "there is no fuse", shelf.Of(0, nil).Sync("a"), api.OK)
}

// P1.1, A2
func TestWrite(t *testing.T) {
	s := shelf.New(10)
	want(t, "first", s.Write("a/x", []byte("123")), api.OK)
	want(t, "anew", s.Write("a/x", []byte("45")), api.OK)
	want(t, "empty", s.Write("b/y", nil), api.OK)
	wantState(t, "written", s, "a/x=45 b/y= 2 3 3 false")
	want(t, "just the room", s.Write("b/y", []byte("12345678")), api.OK)
	want(t, "one more", s.Write("b/y", []byte("123456789")), api.ErrFull)
	want(t, "an empty one where all is full", s.Write("b/z", nil), api.OK)
	want(t, "one byte where all is full", s.Write("b/z", []byte("1")), api.ErrFull)
	want(t, "its own bytes do not count", s.Write("a/x", []byte("67")), api.OK)
	wantState(t, "full", s, "a/x=67 b/y=12345678 b/z= 10 6 6 false")
}

// P1.1, A2
func TestWriteRoom(t *testing.T) {
	want(t, "no room, no bytes", shelf.New(0).Write("a/x", nil), api.OK)
	want(t, "no room, a byte", shelf.New(0).Write("a/x", []byte("1")), api.ErrFull)
	want(t, "a room below 0", shelf.New(-1).Write("a/x", nil), api.ErrFull)
	want(t, "the least room", shelf.New(math.MinInt).Write("a/x", nil), api.ErrFull)
	want(t, "the greatest room", shelf.New(math.MaxInt).Write("a/x", []byte("1")), api.OK)
	s := shelf.Of(3, []api.File{{Path: "a/x", Data: []byte("12345")}, {Path: "a/y", Data: []byte("1")}})
	want(t, "less than was, but more than the room", s.Write("a/y", nil), api.ErrFull)
	want(t, "within the room", s.Write("a/x", []byte("12")), api.OK)
	want(t, "more than the room", s.Write("a/x", []byte("123")), api.ErrFull)
}

// P1.1, A2
func TestWriteLimits(t *testing.T) {
	s := shelf.Of(1<<30, many(api.MaxFiles))
	want(t, "one more than MaxFiles", s.Write("d/new", nil), api.ErrTooMany)
	want(t, "one that is there", s.Write("d/f7", []byte("22")), api.OK)
	want(t, "MaxFile", s.Write("d/f8", make([]byte, api.MaxFile)), api.OK)
	want(t, "more than MaxFile", s.Write("d/f8", make([]byte, api.MaxFile+1)), api.ErrTooMany)
	want(t, "away", s.Remove("d/f9"), api.OK)
	want(t, "in its place", s.Write("d/new", nil), api.OK)
	want(t, "full once more", s.Write("d/f9", nil), api.ErrTooMany)
	want(t, "a rename is no new file", s.Rename("d/new", "d/f9"), api.OK)
	s.Sync("d")
	want(t, "away", s.Remove("d/f1"), api.OK)
	want(t, "another", s.Write("d/new", nil), api.OK)
	s.Crash([]bool{false, true})
	if len(s.Files()) != api.MaxFiles+1 {
		t.Error("a crash may keep more than MaxFiles", len(s.Files()))
	}
	want(t, "no new one beyond MaxFiles", s.Write("d/other", nil), api.ErrTooMany)
}

// P1.1, A2; P2
func TestWriteErrorsInOrder(t *testing.T) {
	big := make([]byte, api.MaxFile+1)
	s := shelf.Of(5, many(api.MaxFiles))
	want(t, "no path, ahead of too long", s.Write("a", big), api.ErrArg)
	want(t, "too long, ahead of full", s.Write("d/f1", big), api.ErrTooMany)
	want(t, "too many, ahead of full", s.Write("d/new", []byte("1")), api.ErrTooMany)
	want(t, "full", s.Write("d/f1", []byte("1")), api.ErrFull)
	s.Fuse(0)
	want(t, "no power, ahead of all", s.Write("a", big), api.ErrDown)
}

// P1.1, A2
func TestRename(t *testing.T) {
	s := shelf.New(10)
	s.Write("a/x", []byte("1"))
	s.Write("a/y", []byte("22"))
	s.Write("b/x", []byte("333"))
	want(t, "of none", s.Rename("a/q", "a/x"), api.ErrNone)
	want(t, "of none to itself", s.Rename("a/q", "a/q"), api.ErrNone)
	want(t, "to another directory", s.Rename("a/x", "b/y"), api.ErrArg)
	want(t, "of none to another directory", s.Rename("a/q", "b/q"), api.ErrArg)
	wantState(t, "refused", s, "a/x=1 a/y=22 b/x=333 6 3 3 false")
	want(t, "to itself", s.Rename("a/x", "a/x"), api.OK)
	wantState(t, "to itself", s, "a/x=1 a/y=22 b/x=333 6 4 4 false")
	want(t, "to a new one", s.Rename("a/x", "a/z"), api.OK)
	wantState(t, "to a new one", s, "a/y=22 a/z=1 b/x=333 6 5 5 false")
	want(t, "onto one that is there", s.Rename("a/z", "a/y"), api.OK)
	wantState(t, "onto one that is there", s, "a/y=1 b/x=333 4 6 6 false")
}

// P1.1, A2
func TestRemove(t *testing.T) {
	s := shelf.New(10)
	s.Write("a/x", []byte("1"))
	want(t, "none", s.Remove("b/x"), api.ErrNone)
	want(t, "one", s.Remove("a/x"), api.OK)
	want(t, "once more", s.Remove("a/x"), api.ErrNone)
	wantState(t, "removed", s, "0 2 2 false")
}

// P1.1, A2 to A4
func TestNoPath(t *testing.T) {
	s := shelf.Of(100, []api.File{{Path: "a/b", Data: []byte("1")}})
	for _, p := range noPaths {
		want(t, "write "+p, s.Write(p, nil), api.ErrArg)
		want(t, "rename to "+p, s.Rename("a/b", p), api.ErrArg)
		want(t, "rename from "+p, s.Rename(p, "a/b"), api.ErrArg)
		want(t, "rename to itself "+p, s.Rename(p, p), api.ErrArg)
		want(t, "rename of none to "+p, s.Rename("a/none", p), api.ErrArg)
		want(t, "remove "+p, s.Remove(p), api.ErrArg)
		if b, e := s.Read(p); e != api.ErrArg || b != nil {
			t.Errorf("read %q: %d", p, e)
		}
	}
	for _, d := range []string{"", "/", "A", "a/", "a/b", "/a", "a b", "é", long + "n"} {
		want(t, "sync "+d, s.Sync(d), api.ErrArg)
	}
	wantState(t, "refused", s, "a/b=1 1 0 0 false")
	for _, p := range paths {
		want(t, "write "+p, s.Write(p, []byte("2")), api.OK)
		if b, e := s.Read(p); e != api.OK || string(b) != "2" {
			t.Errorf("read %q: %d", p, e)
		}
		want(t, "remove "+p, s.Remove(p), api.OK)
	}
	for _, d := range []string{"a", "z", "0", "9", ".", "-", long} {
		want(t, "sync "+d, s.Sync(d), api.OK)
	}
}

// P1.1, A3
func TestSync(t *testing.T) {
	s := shelf.New(100)
	s.Write("a/x", []byte("1"))
	s.Write("b/y", []byte("2"))
	s.Rename("a/x", "a/z")
	want(t, "sync", s.Sync("a"), api.OK)
	wantState(t, "those of b are loose", s, "a/z=1 b/y=2 2 4 1 false")
	want(t, "a part of a name is another one", s.Sync("b-"), api.OK)
	want(t, "with nothing loose", s.Sync("a"), api.OK)
	wantState(t, "a sync is an act, but not loose", s, "a/z=1 b/y=2 2 6 1 false")
	s.Crash(nil)
	wantState(t, "a is there", s, "a/z=1 1 6 0 false")
	s.Remove("a/z")
	s.Write("b/y", []byte("3"))
	s.Sync("a")
	s.Crash([]bool{true})
	wantState(t, "places are those of what is loose", s, "b/y=3 1 9 0 false")
}

// P1.1, A3
func TestSyncPlaysOnSyncedFiles(t *testing.T) {
	s := shelf.Of(100, []api.File{{Path: "a/x", Data: []byte("1")}, {Path: "a/y", Data: []byte("2")}})
	s.Remove("a/x")
	s.Write("a/x", []byte("3"))
	s.Rename("a/x", "a/y")
	s.Write("a/x", []byte("4"))
	s.Sync("a")
	s.Crash(nil)
	wantState(t, "in order", s, "a/x=4 a/y=3 2 5 0 false")
}

// P1.1, A4
func TestRead(t *testing.T) {
	s := shelf.Of(100, []api.File{{Path: "a/x", Data: []byte("1")}, {Path: "a/empty"}})
	if b, e := s.Read("a/x"); e != api.OK || string(b) != "1" {
		t.Error("read", e)
	}
	if b, e := s.Read("a/empty"); e != api.OK || len(b) != 0 {
		t.Error("read of an empty one", e)
	}
	if b, e := s.Read("a/y"); e != api.ErrNone || b != nil {
		t.Error("read of none", e)
	}
	s.Fuse(0)
	if b, e := s.Read("a/x"); e != api.OK || string(b) != "1" || s.Down() {
		t.Error("a read is no act", e)
	}
	s.Sync("a")
	for _, p := range []string{"a/x", "a/y", "A", ""} {
		if b, e := s.Read(p); e != api.ErrDown || b != nil {
			t.Error("read without power", p, e)
		}
	}
	wantState(t, "the rest is told without power", s, "a/empty= a/x=1 1 0 0 true")
}

// P1.1, A4
func TestFilesRise(t *testing.T) {
	s := shelf.New(100)
	for _, p := range []string{"b/a", "a/z", "a/b", "a-/b", "a./b", "a0/b", "aa/b", "a/b-", "a/b0"} {
		s.Write(p, nil)
	}
	if got := show(s); got != "a-/b= a./b= a/b= a/b-= a/b0= a/z= a0/b= aa/b= b/a= " {
		t.Error(got)
	}
}

// P1.1, A5
func TestFuse(t *testing.T) {
	for _, n := range []int{0, 1, 3} {
		s := shelf.New(100)
		s.Fuse(n)
		for range n {
			want(t, "refused acts burn nothing", s.Write("a", nil), api.ErrArg)
			want(t, "there is power", s.Sync("a"), api.OK)
		}
		if s.Down() {
			t.Error("the power goes ahead of the act behind", n)
		}
		want(t, "it goes", s.Sync("a"), api.ErrDown)
		want(t, "it is gone", s.Sync("a"), api.ErrDown)
		wantState(t, "gone", s, "0 "+strconv.Itoa(n)+" 0 true")
	}
}

// P1.1, A5
func TestFuseBurnsByEachAct(t *testing.T) {
	s := shelf.New(100)
	s.Fuse(4)
	want(t, "write", s.Write("a/x", nil), api.OK)
	want(t, "rename", s.Rename("a/x", "a/y"), api.OK)
	want(t, "remove", s.Remove("a/y"), api.OK)
	want(t, "sync", s.Sync("a"), api.OK)
	want(t, "the fifth", s.Write("a/x", nil), api.ErrDown)
	wantState(t, "gone", s, "0 4 0 true")
}

// P1.1, A5
func TestEachActIsDown(t *testing.T) {
	acts := map[string]func(s *shelf.Shelf) api.Errno{
		"write":            func(s *shelf.Shelf) api.Errno { return s.Write("a/y", nil) },
		"rename":           func(s *shelf.Shelf) api.Errno { return s.Rename("a/x", "a/y") },
		"remove":           func(s *shelf.Shelf) api.Errno { return s.Remove("a/x") },
		"sync":             func(s *shelf.Shelf) api.Errno { return s.Sync("a") },
		"write to no path": func(s *shelf.Shelf) api.Errno { return s.Write("a", nil) },
		"rename of none":   func(s *shelf.Shelf) api.Errno { return s.Rename("a/q", "a/y") },
		"remove of none":   func(s *shelf.Shelf) api.Errno { return s.Remove("a/q") },
		"sync of no part":  func(s *shelf.Shelf) api.Errno { return s.Sync("a/") },
	}
	for what, act := range acts {
		s := shelf.Of(100, []api.File{{Path: "a/x", Data: []byte("1")}})
		s.Fuse(0)
		want(t, what+" at a fuse of 0", act(s), api.ErrDown)
		wantState(t, what, s, "a/x=1 1 0 0 true")
		s.Fuse(5)
		want(t, what+" without power", act(s), api.ErrDown)
		s.Fuse(-1)
		want(t, what+" without power and fuse", act(s), api.ErrDown)
		wantState(t, what, s, "a/x=1 1 0 0 true")
	}
}

// P1.1, A5
func TestNoFuse(t *testing.T) {
	for _, n := range []int{-1, -2, math.MinInt} {
		s := shelf.New(100)
		s.Fuse(0)
		s.Fuse(n)
		for range 5 {
			want(t, "below 0 there is none", s.Sync("a"), api.OK)
		}
	}
	s := shelf.New(100)
	s.Fuse(math.MaxInt)
	want(t, "a long fuse", s.Sync("a"), api.OK)
	s.Fuse(1)
	s.Crash(nil)
	for range 3 {
		want(t, "behind a crash there is none", s.Sync("a"), api.OK)
	}
	s.Fuse(0)
	s.Sync("a")
	s.Crash(nil)
	want(t, "the power is back, without a fuse", s.Sync("a"), api.OK)
	wantState(t, "acts go on", s, "0 5 0 false")
}

// P1.1, A5
func TestCrash(t *testing.T) {
	for _, c := range []struct {
		keep string
		want string
	}{
		{"", "a/x=1 "}, {"000", "a/x=1 "}, {"1", "a/x=1 a/y=2 "}, {"01", "a/z=1 "}, {"001", "a/x=1 b/x=3 "}, {"11", "a/y=2 a/z=1 "},
		{"111", "a/y=2 a/z=1 b/x=3 "}, {"0001111", "a/x=1 "}, {"1010", "a/x=1 a/y=2 b/x=3 "}, {"1111111", "a/y=2 a/z=1 b/x=3 "},
	} {
		s := shelf.Of(100, []api.File{{Path: "a/x", Data: []byte("1")}})
		s.Write("a/y", []byte("2"))
		s.Rename("a/x", "a/z")
		s.Write("b/x", []byte("3"))
		var keep []bool
		for _, k := range c.keep {
			keep = append(keep, k == '1')
		}
		s.Crash(keep)
		if got := show(s); got != c.want || s.Loose() != 0 || s.Acts() != 3 {
			t.Errorf("%s: %q", c.keep, got)
		}
		s.Crash(nil)
		if got := show(s); got != c.want {
			t.Errorf("%s, and a crash more: %q", c.keep, got)
		}
	}
}

// P1.1, A5: an act that leans on one that was lost.
func TestCrashWithoutWhatAnActLeansOn(t *testing.T) {
	s := shelf.Of(100, []api.File{{Path: "a/y", Data: []byte("1")}})
	s.Write("a/x", []byte("2"))
	s.Rename("a/x", "a/y")
	s.Crash([]bool{false, true})
	wantState(t, "a rename of what is not there", s, "a/y=1 1 2 0 false")
	s.Write("a/x", nil)
	s.Remove("a/x")
	s.Crash([]bool{false, true})
	wantState(t, "a remove of what is not there", s, "a/y=1 1 4 0 false")
	s.Rename("a/y", "a/y")
	s.Crash([]bool{true})
	wantState(t, "a rename to itself", s, "a/y=1 1 5 0 false")
	s.Write("b/y", []byte("4"))
	s.Sync("b")
	s.Crash(nil)
	wantState(t, "the second alone", s, "a/y=1 b/y=4 2 7 0 false")
}

// The chapter's example.
func TestExample(t *testing.T) {
	s := shelf.New(100)
	s.Write("a/x", nil)
	s.Write("b/y", nil)
	s.Sync("a")
	s.Crash(nil)
	wantState(t, "example", s, "a/x= 0 3 0 false")
}

// P3: what is handed in is neither kept nor changed, what comes out is new.
func TestNothingIsShared(t *testing.T) {
	spare := []byte("123456")
	given := []api.File{{Path: "a/x", Data: spare[:3]}}
	s := shelf.Of(100, given)
	spare[0], given[0].Path = '9', "b/b"
	written := []byte("abcdef")
	s.Write("a/y", written[:3])
	written[0] = '9'
	wantState(t, "handed in", s, "a/x=123 a/y=abc 6 1 1 false")
	if string(spare) != "923456" || string(written) != "9bcdef" {
		t.Error("what was handed in is changed")
	}
	got, _ := s.Read("a/y")
	got[0] = '9'
	_ = append(got, '9')
	l := s.Files()
	l[0].Data[0] = '9'
	l[1] = api.File{}
	wantState(t, "handed out", s, "a/x=123 a/y=abc 6 1 1 false")
	keep := []bool{true, false, true}
	s.Crash(keep)
	if !keep[0] || keep[1] || !keep[2] {
		t.Error("keep is changed")
	}
	wantState(t, "crash", s, "a/x=123 a/y=abc 6 1 0 false")
}

// P3: two shelves know nothing of one another.
func TestShelvesAreApart(t *testing.T) {
	given := []api.File{{Path: "a/x", Data: []byte("1")}}
	a, b := shelf.Of(100, given), shelf.Of(100, given)
	a.Fuse(1)
	a.Remove("a/x")
	a.Sync("a")
	wantState(t, "the one", a, "0 1 1 true")
	wantState(t, "the other", b, "a/x=1 1 0 0 false")
}
