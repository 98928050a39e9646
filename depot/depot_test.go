package depot_test

import (
	"bytes"
	"slices"
	"strconv"
	"strings"
	"sync"
	"testing"

	"sacristy/api"
	"sacristy/delta"
	"sacristy/depot"
	"sacristy/index"
	"sacristy/object"
	"sacristy/shelf"
)

const room = 1 << 24

// P13.1, M1; P13.2
func TestSave(t *testing.T) {
	empty := api.Obj{Kind: api.Tree}
	commit, _ := object.PutChange(api.Change{Tree: object.Id(empty), Who: "me"})
	for i, c := range []struct {
		l     []api.Entry
		bytes string
		ids   []string
	}{
		{nil, "PAKS\x00", nil},
		{blobs("a"), "PAKS\x01\x01\x01a", []string{id("a")}},
		{blobs("b a"), "PAKS\x02\x01\x01b\x01\x01a", []string{id("b"), id("a")}},
		{blobs("a b"), "PAKS\x02\x01\x01a\x01\x01b", []string{id("a"), id("b")}},
		{[]api.Entry{{Kind: api.Commit, Data: commit}, {Kind: api.Tree}}, "PAKS\x02\x03" + string([]byte{byte(len(commit))}) + commit + "\x02\x00", []string{object.Id(api.Obj{Kind: api.Commit, Data: commit}), object.Id(empty)}},
		{[]api.Entry{blob("abcdef"), back(1, "abcdef", "xabcdef")}, "PAKS\x02\x01\x06abcdef\x06\x07\x01\x06\x07\x01x\x80\x00\x06", []string{id("abcdef"), id("xabcdef")}},
		{[]api.Entry{on("abcdef", "xabcdef"), blob("abcdef")}, "PAKS\x02\x07\x07" + id("abcdef") + "\x06\x07\x01x\x80\x00\x06\x01\x06abcdef", []string{id("xabcdef"), id("abcdef")}},
	} {
		s := shelf.New(room)
		s.Write("own/z", []byte("z"))
		name, e := depot.Save(s, "own", c.l)
		b := sealed(c.bytes)
		x, _ := index.Put(c.ids)
		got, e1 := s.Read("own/" + name + ".pack")
		also, e2 := s.Read("own/" + name + ".idx")
		if e != api.OK || name != nameOf(b) || e1 != api.OK || e2 != api.OK || !bytes.Equal(got, b) || !bytes.Equal(also, x) || len(s.Files()) != 3 || s.Acts() != 3 || s.Loose() != 3 {
			t.Fatalf("%d: %q %v %q %q", i, name, e, got, also)
		}
		l, e := depot.Load(s, "own", name)
		slices.Sort(c.ids)
		if e != api.OK || !slices.Equal(names(t, l), c.ids) {
			t.Error(i, l, e)
		}
		// The pack's file is written ahead of the index's.
		s.Crash([]bool{true, true, false})
		if got := inDir(s, "own"); !slices.Equal(got, []string{name + ".pack", "z"}) && !slices.Equal(got, []string{"z", name + ".pack"}) {
			t.Error(i, got)
		}
	}
}

// big are blobs of so many bytes each, none like another one.
func big(n int, size int) []api.Entry {
	var l []api.Entry
	for i := range n {
		l = append(l, blob(strings.Repeat(string([]byte{'a' + byte(i)}), size)))
	}
	return l
}

// P13.1, M1: errors of entries, the first one that the words name; nothing is done then.
func TestSaveRefused(t *testing.T) {
	wide := big(5, api.MaxData)
	wrong := api.Entry{Kind: api.Tree, Data: "x"}
	for i, c := range []struct {
		l    []api.Entry
		want api.Errno
	}{
		{[]api.Entry{{}}, api.ErrArg},
		{[]api.Entry{blob("a"), {Kind: 5}}, api.ErrArg},
		{[]api.Entry{{Kind: api.Base, Base: "x"}}, api.ErrArg},
		{[]api.Entry{blob("a"), {Kind: api.Back, Back: 2}}, api.ErrArg},
		{[]api.Entry{blob(strings.Repeat("x", api.MaxData+1))}, api.ErrArg},
		{numbered(0, api.MaxObjects+1), api.ErrArg},
		{[]api.Entry{{Kind: api.Tag}}, api.ErrCorrupt},
		{[]api.Entry{blob("a"), {Kind: api.Back, Back: 1, Data: delta.Make("ab", "b")}}, api.ErrCorrupt},
		{[]api.Entry{on("a", "b")}, api.ErrLack},
		{[]api.Entry{blob("b"), on("a", "b")}, api.ErrLack},
		{chain(17), api.ErrTooMany},
		{blobs("a a"), api.ErrThere},
		{blobs("a b c b"), api.ErrThere},
		{[]api.Entry{blob("abcdef"), back(1, "abcdef", "abcdef")}, api.ErrThere},
		{wide, api.ErrTooMany},
		// Resolve's comes ahead of the index's, that of Put's.
		{append(blobs("a a"), api.Entry{}), api.ErrArg},
		{append(blobs("a a"), wrong), api.ErrCorrupt},
		{append(blobs("a a"), on("b", "c")), api.ErrLack},
		{append(chain(17), blobs("a a")...), api.ErrTooMany},
		{append(slices.Clone(wide), wide[0]), api.ErrThere},
		{append(slices.Clone(wide), wrong), api.ErrCorrupt},
		{append(slices.Clone(wide), on("b", "c")), api.ErrLack},
	} {
		for _, dir := range []string{"own", "", "own/x", "No"} {
			for _, power := range []bool{true, false} {
				s := shelf.Of(room, []api.File{{Path: "own/x"}})
				if !power {
					s.Fuse(0)
					s.Sync("own")
				}
				ahead := state(s)
				if name, e := depot.Save(s, dir, c.l); name != "" || e != c.want || state(s) != ahead {
					t.Error(i, dir, power, name, e)
				}
			}
		}
	}
}

// P13.1, M1: what may just be.
func TestSaveBounds(t *testing.T) {
	full := big(4, api.MaxData-20)
	full = append(full, blob(""))
	b := bytesOf(full)
	full[4].Data = strings.Repeat("z", api.MaxFile-len(b))
	for i, l := range [][]api.Entry{numbered(0, api.MaxObjects), chain(16), full, big(1, api.MaxData)} {
		s := shelf.New(room)
		name, e := depot.Save(s, strings.Repeat("d", api.MaxName), l)
		held, f := depot.Load(s, strings.Repeat("d", api.MaxName), name)
		if e != api.OK || f != api.OK || len(held) != len(l) {
			t.Error(i, e, f)
		}
	}
	if n := len(bytesOf(full)); n != api.MaxFile {
		t.Error(n)
	}
	full[4].Data += "z"
	s := shelf.New(room)
	if name, e := depot.Save(s, "own", full); name != "" || e != api.ErrTooMany || s.Acts() != 0 {
		t.Error(name, e)
	}
}

// filled is a shelf of n files, beside those of own.
func filled(n int) *shelf.Shelf {
	var l []api.File
	for i := range n {
		l = append(l, api.File{Path: "d/" + strconv.Itoa(i)})
	}
	return shelf.Of(room, l)
}

// P13.1, M1: errors of the shelf; what was written ahead of them is.
func TestSaveOnShelf(t *testing.T) {
	l := blobs("a b")
	b, x := bytesOf(l), indexOf("a b")
	name := nameOf(b)
	down := shelf.New(room)
	down.Fuse(0)
	down.Sync("a")
	fused := func(n int) *shelf.Shelf {
		s := shelf.New(room)
		s.Fuse(n)
		return s
	}
	for i, c := range []struct {
		s     *shelf.Shelf
		dir   string
		want  api.Errno
		files string
		down  bool
	}{
		{shelf.New(len(b) + len(x)), "own", api.OK, ".idx .pack", false},
		{shelf.New(len(b) + len(x) - 1), "own", api.ErrFull, ".pack", false},
		{shelf.New(len(b)), "own", api.ErrFull, ".pack", false},
		{shelf.New(len(b) - 1), "own", api.ErrFull, "", false},
		{shelf.New(-1), "own", api.ErrFull, "", false},
		{filled(398), "own", api.OK, ".idx .pack", false},
		{filled(399), "own", api.ErrTooMany, ".pack", false},
		{filled(400), "own", api.ErrTooMany, "", false},
		{shelf.New(room), "", api.ErrArg, "", false},
		{shelf.New(room), "Own", api.ErrArg, "", false},
		{shelf.New(room), "own/own", api.ErrArg, "", false},
		{shelf.New(room), strings.Repeat("d", api.MaxName+1), api.ErrArg, "", false},
		{down, "own", api.ErrDown, "", true},
		{down, "Own", api.ErrDown, "", true},
		{fused(0), "own", api.ErrDown, "", true},
		{fused(0), "Own", api.ErrDown, "", true},
		{fused(1), "own", api.ErrDown, ".pack", true},
		{fused(1), "Own", api.ErrArg, "", false},
		{fused(2), "own", api.OK, ".idx .pack", false},
	} {
		got, e := depot.Save(c.s, c.dir, l)
		var files []string
		for _, end := range strings.Fields(c.files) {
			files = append(files, name+end)
		}
		if e != c.want || (got == name) != (e == api.OK) || got != name && got != "" || !slices.Equal(inDir(c.s, "own"), files) || c.s.Down() != c.down {
			t.Error(i, got, e, inDir(c.s, "own"))
		}
	}
}

// P13.1, M1; P13.3: what is there already is not written once more.
func TestSaveAgain(t *testing.T) {
	l := blobs("a b")
	first := shelf.New(room)
	name := save(t, first, "own", l, depot.Save)
	whole := first.Files()
	x, p := whole[0], whole[1]
	other := api.File{Path: p.Path, Data: []byte("x")}
	longer := api.File{Path: x.Path, Data: append(bytes.Clone(x.Data), 0)}
	gone := api.File{Path: "pool/" + strings.TrimPrefix(p.Path, "own/"), Data: p.Data}
	for i, c := range []struct {
		files []api.File
		acts  int
	}{
		{nil, 2}, {whole, 0}, {[]api.File{x}, 1}, {[]api.File{p}, 1}, {[]api.File{x, other}, 1}, {[]api.File{longer, p}, 1}, {[]api.File{longer, other}, 2}, {[]api.File{gone}, 2}, {[]api.File{other}, 2},
		{[]api.File{{Path: x.Path, Data: p.Data}, {Path: p.Path, Data: x.Data}}, 2}, {[]api.File{{Path: x.Path}, {Path: p.Path}}, 2},
	} {
		for _, fuse := range []int{-1, c.acts} { // no more acts than those are done
			s := shelf.Of(room, c.files)
			s.Fuse(fuse)
			got, e := depot.Save(s, "own", l)
			if got != name || e != api.OK || s.Acts() != c.acts || s.Loose() != c.acts || s.Down() {
				t.Error(i, got, e, s.Acts())
			}
			if held, e := depot.Load(s, "own", name); e != api.OK || !slices.Equal(names(t, held), ids("a b")) {
				t.Error(i, held, e)
			}
			ahead := state(s)
			if got, e := depot.Save(s, "own", l); got != name || e != api.OK || state(s) != ahead {
				t.Error(i, got, e)
			}
		}
	}
	// Without power nothing can be read: what is there would have to be written.
	first.Fuse(0)
	first.Sync("own")
	if got, e := depot.Save(first, "own", l); got != "" || e != api.ErrDown {
		t.Error(got, e)
	}
}

// P13.1, M2: names, and files that are not there.
func TestLoadNone(t *testing.T) {
	s := shelf.New(room)
	name := save(t, s, "own", blobs("a"), depot.Save)
	half := lay(s, "own", sealed("half"), nil)
	s.Remove("own/" + half + ".idx")
	other := lay(s, "own", sealed("other"), indexOf("a"))
	s.Remove("own/" + other + ".pack")
	down := shelf.Of(room, s.Files())
	down.Fuse(0)
	down.Sync("own")
	for i, c := range []struct {
		dir, name string
		want      api.Errno
		dark      api.Errno // without power
	}{
		{"own", name, api.OK, api.ErrDown},
		{"pool", name, api.ErrNone, api.ErrDown},
		{"own", nameOf(nil), api.ErrNone, api.ErrDown},
		{"own", half, api.ErrNone, api.ErrDown},
		{"own", other, api.ErrNone, api.ErrDown},
		{"own", "", api.ErrArg, api.ErrArg},
		{"own", "x", api.ErrArg, api.ErrArg},
		{"own", name[1:], api.ErrArg, api.ErrArg},
		{"own", name + "0", api.ErrArg, api.ErrArg},
		{"own", name + ".pack", api.ErrArg, api.ErrArg},
		{"own", strings.ToUpper(name), api.ErrArg, api.ErrArg},
		{"own", "g" + name[1:], api.ErrArg, api.ErrArg},
		{"own", "/" + name[1:], api.ErrArg, api.ErrArg},
		{"Own", "x", api.ErrArg, api.ErrArg},
		{"Own", name, api.ErrArg, api.ErrDown},
		{"", name, api.ErrArg, api.ErrDown},
		{"own/", name, api.ErrArg, api.ErrDown},
		{strings.Repeat("d", api.MaxName+1), name, api.ErrArg, api.ErrDown},
		{strings.Repeat("d", api.MaxName), name, api.ErrNone, api.ErrDown},
	} {
		for _, x := range []struct {
			s    *shelf.Shelf
			want api.Errno
		}{{s, c.want}, {down, c.dark}} {
			ahead := state(x.s)
			l, e := depot.Load(x.s, c.dir, c.name)
			all, f := depot.All(x.s, c.dir, []string{c.name})
			if e != x.want || f != x.want || (len(l) == 1) != (e == api.OK) || len(all) != len(l) || state(x.s) != ahead {
				t.Error(i, l, e, f)
			}
		}
	}
}

// P13.1, M2: bytes that are by their name, and an index, of which some are not as they are saved.
func TestLoadCorrupt(t *testing.T) {
	two := blobs("a b")
	x := indexOf("a b")
	twice := bytesOf(blobs("a a"))
	swapped := append(bytes.Clone(x[:512]), slices.Concat(x[546:580], x[512:546])...)
	for i, c := range []struct {
		b, x []byte
		want api.Errno
	}{
		{bytesOf(two), x, api.OK},
		{bytesOf(nil), indexOf(""), api.OK},
		{bytesOf([]api.Entry{on("abcdef", "xabcdef"), blob("abcdef")}), indexOf("xabcdef abcdef"), api.OK},
		// what pack.Get refuses
		{nil, nil, api.ErrCorrupt},
		{nil, indexOf(""), api.ErrCorrupt},
		{[]byte("x"), indexOf(""), api.ErrCorrupt},
		{bytesOf(two)[1:], x, api.ErrCorrupt},
		{append(bytesOf(two), 0), x, api.ErrCorrupt},
		{sealed("PAKS\x01"), indexOf(""), api.ErrCorrupt},
		{sealed("PAKS\x01\x05\x00"), indexOf(""), api.ErrCorrupt},
		// what pack.Resolve refuses, by each of its errors
		{bytesOf([]api.Entry{{Kind: api.Tag}}), indexOf(""), api.ErrCorrupt},
		{bytesOf([]api.Entry{on("a", "b")}), indexOf("b"), api.ErrCorrupt},
		{bytesOf([]api.Entry{blob("c"), on("a", "b")}), indexOf("c b"), api.ErrCorrupt},
		{bytesOf(chain(17)), indexOf("0 1 2 3 4 5 6 7 8 9 10 11 12 13 14 15 16 17"), api.ErrCorrupt},
		{bytesOf(chain(16)), indexOf("0 1 2 3 4 5 6 7 8 9 10 11 12 13 14 15 16"), api.OK},
		// an index that is not theirs
		{bytesOf(two), nil, api.ErrCorrupt},
		{bytesOf(two), indexOf(""), api.ErrCorrupt},
		{bytesOf(two), indexOf("a"), api.ErrCorrupt},
		{bytesOf(two), indexOf("b a"), api.ErrCorrupt},
		{bytesOf(two), indexOf("a c"), api.ErrCorrupt},
		{bytesOf(two), indexOf("a b c"), api.ErrCorrupt},
		{bytesOf(two), x[1:], api.ErrCorrupt},
		{bytesOf(two), append(bytes.Clone(x), 0), api.ErrCorrupt},
		{bytesOf(two), sealed(string(swapped)), api.ErrCorrupt},
		{bytesOf(two), bytesOf(two), api.ErrCorrupt},
		{bytesOf(nil), nil, api.ErrCorrupt},
		// two that are one have no index
		{twice, nil, api.ErrCorrupt},
		{twice, indexOf(""), api.ErrCorrupt},
		{twice, indexOf("a"), api.ErrCorrupt},
		{twice, indexOf("a b"), api.ErrCorrupt},
	} {
		s := shelf.New(room)
		name := lay(s, "own", c.b, c.x)
		l, e := depot.Load(s, "own", name)
		if e != c.want || e != api.OK && len(l) > 0 {
			t.Error(i, l, e)
		}
		if l, f := twinLoad(s, "own", name); f != c.want {
			t.Error("the twin", i, l, f)
		}
		// Files that are right, by another name.
		s.Rename("own/"+name+".pack", "own/"+nameOf([]byte("y"))+".pack")
		s.Rename("own/"+name+".idx", "own/"+nameOf([]byte("y"))+".idx")
		if l, e := depot.Load(s, "own", nameOf([]byte("y"))); len(l) > 0 || e != api.ErrCorrupt {
			t.Error(i, l, e)
		}
	}
}

// P13.3: a pack of which a byte was changed is not loaded, nor one of which some are cut off, or put behind; saved, it is there again; once more, and nothing is done.
func TestBytes(t *testing.T) {
	l := []api.Entry{blob("abcdef"), back(1, "abcdef", "xabcdef"), {Kind: api.Tree}}
	s := shelf.New(room)
	name := save(t, s, "own", l, depot.Save)
	want, _ := depot.Load(s, "own", name)
	check := func(path string, changed []byte) {
		t.Helper()
		s.Write(path, changed)
		if l, e := depot.Load(s, "own", name); e != api.ErrCorrupt || len(l) > 0 {
			t.Fatal(path, e)
		}
		acts := s.Acts()
		for range 2 {
			if n, e := depot.Save(s, "own", l); n != name || e != api.OK || s.Acts() != acts+1 {
				t.Fatal(path, n, e, s.Acts()-acts)
			}
		}
		if l, e := depot.Load(s, "own", name); e != api.OK || !slices.Equal(l, want) {
			t.Fatal(path, e)
		}
	}
	for _, f := range s.Files() {
		for at := range f.Data {
			for _, by := range []byte{1, 0x80, 0xff} {
				changed := bytes.Clone(f.Data)
				changed[at] ^= by
				check(f.Path, changed)
			}
			check(f.Path, f.Data[:at])
			s.Sync("own") // so that loose acts stay few
		}
		check(f.Path, append(bytes.Clone(f.Data), 0))
		check(f.Path, append([]byte{0}, f.Data...))
		check(f.Path, append(bytes.Clone(f.Data), f.Data...))
	}
}

// P13.1, M2
func TestAll(t *testing.T) {
	s := shelf.New(room)
	var by []string
	for _, words := range []string{"a b c", "c d", "e", "", "b a"} {
		by = append(by, save(t, s, "own", blobs(words), depot.Save))
	}
	bad := lay(s, "own", sealed("x"), nil)
	none := nameOf([]byte("none"))
	for i, c := range []struct {
		names []string
		words string
		want  api.Errno
	}{
		{nil, "", api.OK},
		{[]string{}, "", api.OK},
		{by[:1], "a b c", api.OK},
		{by[1:2], "c d", api.OK},
		{by[3:4], "", api.OK},
		{by[:2], "a b c d", api.OK},
		{[]string{by[1], by[0]}, "a b c d", api.OK},
		{[]string{by[2], by[2], by[2]}, "e", api.OK},
		{[]string{by[0], by[4], by[0]}, "a b c", api.OK},
		{by, "a b c d e", api.OK},
		{[]string{"x"}, "", api.ErrArg},
		{[]string{""}, "", api.ErrArg},
		{[]string{none}, "", api.ErrNone},
		{[]string{bad}, "", api.ErrCorrupt},
		{[]string{by[0], none, bad, "x"}, "", api.ErrNone},
		{[]string{by[0], by[1], bad, none, "x"}, "", api.ErrCorrupt},
		{[]string{by[0], "x", none, bad}, "", api.ErrArg},
		{append(slices.Clone(by), none), "", api.ErrNone},
		{[]string{bad, by[0]}, "", api.ErrCorrupt},
	} {
		ahead := state(s)
		l, e := depot.All(s, "own", c.names)
		if e != c.want || !slices.Equal(names(t, l), ids(c.words)) || state(s) != ahead {
			t.Error(i, l, e)
		}
	}
	if l, e := depot.All(s, "pool", by); e != api.ErrNone || len(l) > 0 {
		t.Error(l, e)
	}
	if l, e := depot.All(s, "Pool", nil); e != api.OK || len(l) > 0 {
		t.Error(l, e)
	}
	s.Fuse(0)
	if l, e := depot.All(s, "own", by); e != api.OK || len(l) != 5 || s.Down() {
		t.Error(l, e)
	}
	s.Sync("own")
	if l, e := depot.All(s, "own", by); e != api.ErrDown || len(l) > 0 {
		t.Error(l, e)
	}
	if l, e := depot.All(s, "own", nil); e != api.OK || len(l) > 0 {
		t.Error(l, e)
	}
}

// of is a shelf of files by their paths.
func of(paths string) *shelf.Shelf {
	var l []api.File
	for _, p := range strings.Fields(paths) {
		l = append(l, api.File{Path: p, Data: []byte(p)})
	}
	return shelf.Of(room, l)
}

// left are a shelf's paths.
func left(s *shelf.Shelf) string {
	var l []string
	for _, f := range s.Files() {
		if string(f.Data) != f.Path {
			return "other bytes: " + f.Path
		}
		l = append(l, f.Path)
	}
	return strings.Join(l, " ")
}

// P13.1, M3; P13.4
func TestSweep(t *testing.T) {
	a, b := strings.Repeat("a", 64), strings.Repeat("b", 64)
	full := "own/" + a + ".idx own/" + a + ".pack own/" + b + ".idx own/" + b + ".pack"
	onlyA := "own/" + a + ".idx own/" + a + ".pack"
	for i, c := range []struct {
		files, dir string
		names      []string
		want       string
	}{
		{"", "own", nil, ""},
		{"", "own", []string{a, b}, ""},
		{full, "own", nil, ""},
		{full, "own", []string{a}, onlyA},
		{full, "own", []string{a, a, a}, onlyA},
		{full, "own", []string{a, b}, full},
		{full, "own", []string{b, a}, full},
		{full, "own", []string{nameOf(nil)}, ""},
		{onlyA + " own/z", "own", []string{a}, onlyA},
		// half a pack is its pack's
		{"own/" + a + ".idx own/" + b + ".pack", "own", []string{a, b}, "own/" + a + ".idx own/" + b + ".pack"},
		{"own/" + a + ".idx own/" + b + ".pack", "own", []string{b}, "own/" + b + ".pack"},
		// what is nearly so is not
		{"own/" + a + " own/" + a + ". own/" + a + ".pac own/" + a + ".packs own/" + a + "pack own/" + a + "a.pack own/" + a[1:] + ".pack own/." + a + ".idx own/" + a + ".idx.", "own", []string{a}, ""},
		{"own/.idx own/.pack own/idx own/pack own/- own/.", "own", []string{a}, ""},
		// other directories
		{full + " pool/" + a + ".pack pool/z", "pool", []string{b}, full},
		{full + " pool/" + a + ".pack", "pool", []string{a}, full + " pool/" + a + ".pack"},
		{"a/own nwo/x ow/x own-1/x own.x/y own/x own0/x owns/x pown/x", "own", nil, "a/own nwo/x ow/x own-1/x own.x/y own0/x owns/x pown/x"},
		{full, "ow", nil, full},
		{full, "own/", nil, full},
		{full, "own/" + a, nil, full},
		{full, "", nil, full},
		{full, "/own", nil, full},
		{full, "Own", nil, full},
		{full, strings.Repeat("own", 100), nil, full},
		// names that are none: nothing has them, but for files that are just so
		{full, "own", []string{"", "x", "/", a + ".pack", "../own/" + a, a[1:], strings.ToUpper(a), "\xff", strings.Repeat(a, 1000)}, ""},
		{full, "own", []string{"own/" + a, "x", b, ""}, "own/" + b + ".idx own/" + b + ".pack"},
		{"own/.idx own/.pack own/x.idx own/x.pack own/y.pack own/x", "own", []string{"", "x"}, "own/.idx own/.pack own/x.idx own/x.pack"},
	} {
		s := of(c.files)
		n := len(s.Files())
		if e := depot.Sweep(s, c.dir, c.names); e != api.OK || left(s) != c.want || s.Acts() != n-len(s.Files()) || s.Loose() != s.Acts() || s.Down() {
			t.Error(i, e, left(s))
		}
		ahead := state(s)
		if e := depot.Sweep(s, c.dir, c.names); e != api.OK || state(s) != ahead {
			t.Error(i, e, left(s))
		}
		// What was removed is not synced.
		s.Crash(nil)
		if left(s) != left(of(c.files)) {
			t.Error(i, left(s))
		}
		dark := of(c.files)
		dark.Fuse(0)
		dark.Sync("own")
		if e := depot.Sweep(dark, c.dir, c.names); e != api.ErrDown || left(dark) != left(of(c.files)) {
			t.Error(i, e, left(dark))
		}
	}
}

// P13.1, M3: by rising paths, up to where the power goes.
func TestSweepFuse(t *testing.T) {
	a := strings.Repeat("a", 64)
	keep := "own/" + a + ".pack"
	files := strings.Fields("own/-.x own/0 own/a own/a-b own/a.b own/ab own/b own/b.pack own/z " + keep + " pool/x own/" + a)
	slices.Sort(files)
	var away []string
	for _, p := range files {
		if p != keep && p != "pool/x" {
			away = append(away, p)
		}
	}
	for n := range len(away) + 3 {
		s := of(strings.Join(files, " "))
		s.Fuse(n)
		e := depot.Sweep(s, "own", []string{a})
		gone := min(n, len(away))
		want := slices.DeleteFunc(slices.Clone(files), func(p string) bool { return slices.Contains(away[:gone], p) })
		if (e == api.ErrDown) != (n < len(away)) || (e == api.OK) != (n >= len(away)) || left(s) != strings.Join(want, " ") || s.Acts() != gone || s.Down() != (n < len(away)) {
			t.Error(n, e, left(s))
		}
	}
	// Where nothing is to be removed no power is needed but for what is there.
	s := of(keep)
	s.Fuse(0)
	if e := depot.Sweep(s, "own", []string{a}); e != api.OK || s.Down() {
		t.Error(e)
	}
}

// P3: what is handed in is not changed, nor its spare room.
func TestHandedIn(t *testing.T) {
	l := append(make([]api.Entry, 0, 9), blob("abcdef"), back(1, "abcdef", "xabcdef"))
	spare := slices.Clone(l[:9])
	s := shelf.New(room)
	name := save(t, s, "own", l, depot.Save)
	given := append(make([]string, 0, 9), name, name, nameOf(nil))
	also := slices.Clone(given[:9])
	depot.All(s, "own", given[:2])
	depot.All(s, "own", given)
	depot.Sweep(s, "pool", given)
	depot.Sweep(s, "own", given[:1])
	if !slices.Equal(l[:9], spare) || !slices.Equal(given[:9], also) {
		t.Error(l[:9], given[:9])
	}
	// Nor is it kept.
	l[0], given[0] = blob("other"), ""
	if held, e := depot.Load(s, "own", name); e != api.OK || !slices.Equal(names(t, held), ids("abcdef xabcdef")) {
		t.Error(held, e)
	}
}

// P3: what comes out is new memory.
func TestComeOut(t *testing.T) {
	s := shelf.New(room)
	name := save(t, s, "own", blobs("a b"), depot.Save)
	for _, load := range []func() ([]api.Held, api.Errno){
		func() ([]api.Held, api.Errno) { return depot.Load(s, "own", name) },
		func() ([]api.Held, api.Errno) { return depot.All(s, "own", []string{name}) },
		func() ([]api.Held, api.Errno) { return depot.All(s, "own", []string{name, name}) },
	} {
		l, _ := load()
		for i := range l[:cap(l)] {
			l[:cap(l)][i] = api.Held{Id: "x"}
		}
		if l, e := load(); e != api.OK || !slices.Equal(names(t, l), ids("a b")) {
			t.Error(l, e)
		}
	}
}

// P3: shelves know nothing of one another.
func TestAlone(t *testing.T) {
	var w sync.WaitGroup
	for n := range 8 {
		w.Go(func() {
			s := shelf.New(room)
			for i := range 20 {
				l := numbered(n, i+1)
				a, e1 := depot.Save(s, "own", l)
				b, e2 := depot.Save(s, "own", l[i/2:])
				held, e3 := depot.All(s, "own", []string{a, b})
				e4 := depot.Sweep(s, "own", []string{b})
				_, e5 := depot.Load(s, "own", a)
				if e1 != api.OK || e2 != api.OK || e3 != api.OK || e4 != api.OK || (e5 != api.ErrNone) != (a == b) || len(held) != i+1 || len(s.Files()) != 2 {
					t.Error(n, i, e1, e2, e3, e4, e5, len(held), len(s.Files()))
				}
			}
		})
	}
	w.Wait()
}

// P1: as many packs as a shelf can have, of as many objects as these can, and objects as long as they can be.
func TestMany(t *testing.T) {
	s := shelf.New(1 << 30)
	var by []string
	for n := range api.MaxFiles / 2 {
		by = append(by, save(t, s, "own", numbered(n*500, api.MaxObjects), depot.Save))
	}
	l, e := depot.All(s, "own", by)
	if e != api.OK || len(l) != 500*(len(by)-1)+api.MaxObjects {
		t.Error(len(l), e)
	}
	if e := depot.Sweep(s, "own", by[:100]); e != api.OK || len(s.Files()) != 200 {
		t.Error(e, len(s.Files()))
	}
	// Each is a delta of the first, of a few bytes more.
	base := strings.Repeat("x", api.MaxData-1000)
	long := []api.Entry{blob(base)}
	for i := range api.MaxObjects - 1 {
		long = append(long, back(i+1, base, base+strconv.Itoa(i)))
	}
	name := save(t, s, "own", long, depot.Save)
	if l, e := depot.Load(s, "own", name); e != api.OK || len(l) != api.MaxObjects {
		t.Error(len(l), e)
	}
	// Names in any number.
	few := save(t, s, "own", blobs("a"), depot.Save)
	if l, e := depot.All(s, "own", slices.Repeat([]string{few}, 10000)); e != api.OK || len(l) != 1 {
		t.Error(len(l), e)
	}
	if e := depot.Sweep(s, "own", slices.Repeat([]string{few, "x"}, 100000)); e != api.OK || len(s.Files()) != 2 {
		t.Error(e, len(s.Files()))
	}
}
