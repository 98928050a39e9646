package shelf_test

import (
	"maps"
	"slices"
	"strconv"
	"strings"
	"testing"

	"sacristy/api"
	"sacristy/shelf"
)

// dice are numbers by a short rule: each script can be run once more.
type dice uint64

func (d *dice) roll(n int) int {
	*d = *d*6364136223846793005 + 1442695040888963407
	return int(uint64(*d) >> 33 % uint64(n))
}

// deed is an act, or a Fuse or Crash, as plain words.
type deed struct {
	kind string
	from string
	to   string
	data string
	n    int
	keep []bool
}

func (d deed) dir() string {
	return strings.Split(d.from, "/")[0]
}

var (
	scriptDirs  = []string{"a", "b", "c"}
	scriptNames = []string{"x", "y", "z"}
	wrong       = []string{"", "a", "a/", "a/X", "b/x/y"}
)

func (d *dice) path() string {
	if d.roll(25) == 0 {
		return wrong[d.roll(len(wrong))]
	}
	return scriptDirs[d.roll(3)] + "/" + scriptNames[d.roll(3)]
}

func (d *dice) keep() []bool {
	keep := make([]bool, d.roll(12))
	for i := range keep {
		keep[i] = d.roll(2) == 0
	}
	return keep
}

func (d *dice) deed() deed {
	switch k := d.roll(40); {
	case k < 15:
		return deed{kind: "write", from: d.path(), data: strings.Repeat(strconv.Itoa(d.roll(10)), d.roll(6))}
	case k < 25:
		from := d.path()
		return deed{kind: "rename", from: from, to: strings.Split(from, "/")[0] + "/" + scriptNames[d.roll(3)]}
	case k < 27:
		return deed{kind: "rename", from: d.path(), to: d.path()}
	case k < 32:
		return deed{kind: "remove", from: d.path()}
	case k < 37:
		return deed{kind: "sync", from: []string{"a", "b", "c", "A", "a/"}[d.roll(5)]}
	case k < 38:
		return deed{kind: "fuse", n: d.roll(9) - 2}
	default:
		return deed{kind: "crash", keep: d.keep()}
	}
}

// do does a deed on a shelf.
func do(s *shelf.Shelf, d deed) api.Errno {
	switch d.kind {
	case "write":
		return s.Write(d.from, []byte(d.data))
	case "rename":
		return s.Rename(d.from, d.to)
	case "remove":
		return s.Remove(d.from)
	case "sync":
		return s.Sync(d.from)
	case "fuse":
		s.Fuse(d.n)
	case "crash":
		s.Crash(d.keep)
	}
	return api.OK
}

// twin is a shelf that keeps the deeds since its beginning, and reckons all files out of them.
type twin struct {
	room int
	done []deed // those that are neither synced nor lost come last
	lost []bool // by done: not synced
	acts int
	fuse int
	off  bool
}

func play(files map[string]string, d deed) {
	old, there := files[d.from]
	switch d.kind {
	case "write":
		files[d.from] = d.data
	case "rename":
		if there {
			files[d.to] = old
			if d.to != d.from {
				delete(files, d.from)
			}
		}
	case "remove":
		delete(files, d.from)
	}
}

// files are those of all deeds, or of the synced ones alone.
func (w *twin) files() map[string]string {
	files := map[string]string{}
	for _, d := range w.done {
		play(files, d)
	}
	return files
}

func (w *twin) loose() int {
	n := 0
	for _, l := range w.lost {
		if l {
			n++
		}
	}
	return n
}

func isWrong(p string) bool { return slices.Contains(wrong, p) }

func (w *twin) check(d deed) api.Errno {
	files := w.files()
	_, there := files[d.from]
	if d.kind == "sync" {
		if len(d.from) != 1 || d.from == "A" {
			return api.ErrArg
		}
		return api.OK
	}
	if isWrong(d.from) || d.kind == "rename" && (isWrong(d.to) || d.to[0] != d.from[0]) {
		return api.ErrArg
	}
	if d.kind != "write" {
		if !there {
			return api.ErrNone
		}
		return api.OK
	}
	used := len(d.data)
	for p, b := range files {
		if p != d.from {
			used += len(b)
		}
	}
	if used > w.room {
		return api.ErrFull
	}
	return api.OK
}

func (w *twin) do(d deed) api.Errno {
	switch d.kind {
	case "fuse":
		w.fuse = d.n
		return api.OK
	case "crash":
		w.crash(d.keep)
		return api.OK
	}
	if w.off || w.fuse == 0 {
		w.off = true
		return api.ErrDown
	}
	if e := w.check(d); e != api.OK {
		return e
	}
	w.acts++
	if w.fuse > 0 {
		w.fuse--
	}
	if d.kind == "sync" {
		w.sync(d.from)
	} else {
		w.done, w.lost = append(w.done, d), append(w.lost, true)
	}
	return api.OK
}

// sync puts those of a directory ahead of all that are loose: in order, as acts of two directories do not meet.
func (w *twin) sync(dir string) {
	var first, rest []deed
	for i, d := range w.done {
		if !w.lost[i] || d.dir() == dir {
			first = append(first, d)
		} else {
			rest = append(rest, d)
		}
	}
	w.done = append(first, rest...)
	for i := range w.lost {
		w.lost[i] = i >= len(first)
	}
}

func (w *twin) crash(keep []bool) {
	var done []deed
	place := 0
	for i, d := range w.done {
		if !w.lost[i] || place < len(keep) && keep[place] {
			done = append(done, d)
		}
		if w.lost[i] {
			place++
		}
	}
	w.done, w.lost = done, make([]bool, len(done))
	w.fuse, w.off = -1, false
}

// state is told as the shelf's is.
func (w *twin) state() string {
	var l []api.File
	used := 0
	files := w.files()
	for _, p := range slices.Sorted(maps.Keys(files)) {
		l = append(l, api.File{Path: p, Data: []byte(files[p])})
		used += len(files[p])
	}
	return showFiles(l) + strconv.Itoa(used) + " " + strconv.Itoa(w.acts) + " " + strconv.Itoa(w.loose()) + " " + strconv.FormatBool(w.off)
}

const scripts = 300

// P1.1: scripts of all calls.
func TestScriptsAsTwin(t *testing.T) {
	told := map[api.Errno]int{}
	for seed := range scripts {
		d := dice(seed)
		s, w := shelf.New(20), &twin{room: 20, fuse: -1}
		for i := range 80 {
			x := d.deed()
			got, want := do(s, x), w.do(x)
			told[got]++
			if got != want || state(s) != w.state() {
				t.Fatalf("script %d, step %d, %v: got %d %q, want %d %q", seed, i, x, got, state(s), want, w.state())
			}
			for p, b := range w.files() {
				if r, e := s.Read(p); !w.off && (e != api.OK || string(r) != b) {
					t.Fatalf("script %d, step %d: read %q: %d", seed, i, p, e)
				}
			}
		}
	}
	for _, e := range []api.Errno{api.OK, api.ErrArg, api.ErrFull, api.ErrNone, api.ErrDown} {
		if told[e] < 50 {
			t.Errorf("the scripts meet error %d too seldom: %d", e, told[e])
		}
	}
}

// inDir is what a directory has.
func inDir(s *shelf.Shelf, dir string) string {
	var l []api.File
	for _, f := range s.Files() {
		if strings.HasPrefix(f.Path, dir+"/") {
			l = append(l, f)
		}
	}
	return showFiles(l)
}

// P1.2: what was synced of a directory, and not touched since, is there behind each crash.
func TestSyncedStays(t *testing.T) {
	checked := 0
	for seed := range scripts {
		d := dice(seed + 1000)
		s := shelf.New(40)
		kept := map[string]string{} // what each directory had, as it was synced last, if it was not touched since
		for i := range 80 {
			x := d.deed()
			e := do(s, x)
			switch {
			case x.kind == "crash":
				for dir, files := range kept {
					checked++
					if got := inDir(s, dir); got != files {
						t.Fatalf("script %d, step %d: %s has %q, and had %q", seed, i, dir, got, files)
					}
				}
				for _, dir := range scriptDirs { // what a crash left is synced
					kept[dir] = inDir(s, dir)
				}
			case e != api.OK || x.kind == "fuse":
			case x.kind == "sync":
				kept[x.from] = inDir(s, x.from)
			default:
				delete(kept, x.dir())
			}
		}
	}
	if checked < 500 {
		t.Error("too few crashes", checked)
	}
}

// P1.3: a shelf that was refused acts is, whatever comes behind, as one that was not asked for them.
func TestRefusedChangesNothing(t *testing.T) {
	refused := 0
	for seed := range scripts {
		d := dice(seed + 2000)
		a, b := shelf.New(20), shelf.New(20)
		for i := range 80 {
			x := d.deed()
			ahead := state(a)
			e := do(a, x)
			switch e {
			case api.OK:
				do(b, x)
			case api.ErrDown: // the power went: it is gone for both
				if !b.Down() {
					b.Fuse(0)
					b.Sync("a")
				}
			default:
				refused++
				if state(a) != ahead {
					t.Fatalf("script %d, step %d, %v, refused by %d: %q was %q", seed, i, x, e, state(a), ahead)
				}
			}
			if state(a) != state(b) {
				t.Fatalf("script %d, step %d, %v: %q is not %q", seed, i, x, state(a), state(b))
			}
		}
	}
	if refused < 500 {
		t.Error("too few were refused", refused)
	}
}

// P1.4: with all acts kept, and none synced behind a loose one, a crash leaves the files as they are.
func TestAllKeptLeavesAll(t *testing.T) {
	all := slices.Repeat([]bool{true}, 100)
	for seed := range scripts {
		d := dice(seed + 3000)
		s := shelf.Of(40, []api.File{{Path: "a/x", Data: []byte("1")}, {Path: "b/x", Data: []byte("2")}})
		oneDir := "" // all loose acts are of it, if one is: a sync of it leaves none ahead
		for i := range 60 {
			x := d.deed()
			if x.kind == "crash" || x.kind == "fuse" {
				continue
			}
			if x.kind == "sync" && s.Loose() > 0 && x.from != oneDir {
				continue
			}
			if do(s, x) == api.OK && x.kind != "sync" {
				if s.Loose() == 1 {
					oneDir = x.dir()
				} else if oneDir != x.dir() {
					oneDir = ""
				}
			}
			if d.roll(4) > 0 {
				continue
			}
			ahead := show(s)
			s.Crash(all[:s.Loose()+d.roll(3)])
			if show(s) != ahead || s.Loose() != 0 {
				t.Fatalf("script %d, step %d: %q was %q", seed, i, show(s), ahead)
			}
		}
	}
}
