package net_test

import (
	"bytes"
	"slices"
	"strconv"
	"strings"
	"sync"
	"testing"

	"sacristy/api"
	"sacristy/depot"
	"sacristy/net"
	"sacristy/object"
	"sacristy/pack"
	"sacristy/root"
	"sacristy/shelf"
	"sacristy/walk"
)

const empty = "net 0\npool 0\nforks 0\n"

// P14.1, N1
func TestInit(t *testing.T) {
	file := func(path, data string) api.File { return api.File{Path: path, Data: []byte(data)} }
	for i, c := range []struct {
		s    *shelf.Shelf
		fuse int
		want api.Errno
		path string // of all files
		acts int
	}{
		{shelf.New(room), -1, api.OK, "net/root", 4},
		{shelf.New(len(empty)), -1, api.OK, "net/root", 4},
		{shelf.New(len(empty) - 1), -1, api.ErrFull, "", 0},
		{shelf.New(-1), -1, api.ErrFull, "", 0},
		{shelf.New(room), 0, api.ErrDown, "", 0},
		{shelf.New(room), 1, api.ErrDown, "net/root.new", 1},
		{shelf.New(room), 2, api.ErrDown, "net/root.new", 2},
		{shelf.New(room), 3, api.ErrDown, "net/root", 3},
		{shelf.New(room), 4, api.OK, "net/root", 4},
		{shelf.Of(room, []api.File{file("net/root", "?")}), -1, api.ErrThere, "net/root", 0},
		{shelf.Of(room, []api.File{file("net/root", "")}), 0, api.ErrThere, "net/root", 0},
		{shelf.Of(-1, []api.File{file("net/root", "?")}), -1, api.ErrThere, "net/root", 0},
		{shelf.Of(room, []api.File{file("net/root.new", "?")}), -1, api.OK, "net/root", 4},
		{shelf.Of(room, []api.File{file("own/root", "?")}), -1, api.OK, "net/root own/root", 4},
		{filled(399), -1, api.OK, "", 4},
		{filled(400), -1, api.ErrTooMany, "", 0},
	} {
		n := len(c.s.Files())
		c.s.Fuse(c.fuse)
		e := net.Init(c.s)
		got := strings.Join(paths(c.s), " ")
		if e != c.want || n < 300 && got != c.path || c.s.Acts() != c.acts || c.s.Down() != (e == api.ErrDown) {
			t.Error(i, e, got, c.s.Acts())
		}
		if e == api.OK {
			if b, _ := c.s.Read("net/root"); string(b) != empty || c.s.Loose() > 0 {
				t.Error(i, b)
			}
			ahead := state(c.s)
			if e := net.Init(c.s); e != api.ErrThere || state(c.s) != ahead {
				t.Error(i, e)
			}
		}
		c.s.Fuse(0)
		c.s.Sync("z")
		if e := net.Init(c.s); e != api.ErrDown {
			t.Error(i, e)
		}
	}
}

// filled is a shelf of n files, none of them a net's.
func filled(n int) *shelf.Shelf {
	var l []api.File
	for i := range n {
		l = append(l, api.File{Path: "z/" + strconv.Itoa(i)})
	}
	return shelf.Of(room, l)
}

// save has a pack be on a shelf, and tells its name.
func save(s *shelf.Shelf, dir string, l ...api.Obj) string {
	name, e := depot.Save(s, dir, pack.Whole(walk.Set(l)))
	if e != api.OK {
		panic(e)
	}
	return name
}

// P14.1, N2: what is no net is not opened, and nothing is done to it.
func TestOpenCorrupt(t *testing.T) {
	s, _ := village(t)
	whole, _ := s.Read("net/root")
	r, _ := root.Get(whole)
	own := "own/" + r.Forks[0].Packs[1]
	pool := "pool/" + r.Pool[0]
	put := func(path string, b string) func(*shelf.Shelf) {
		return func(s *shelf.Shelf) { s.Write(path, []byte(b)) }
	}
	with := func(edit func(s *shelf.Shelf, r *api.Root)) func(*shelf.Shelf) {
		return func(s *shelf.Shelf) {
			r, _ := root.Get(whole)
			edit(s, &r)
			s.Write("net/root", []byte(lines(r)))
		}
	}
	for i, c := range []struct {
		edit func(s *shelf.Shelf)
		want api.Errno
	}{
		{func(s *shelf.Shelf) {}, api.OK},
		{func(s *shelf.Shelf) { s.Remove("net/root") }, api.ErrNone},
		{func(s *shelf.Shelf) { s.Rename("net/root", "net/root.new") }, api.ErrNone},
		{func(s *shelf.Shelf) { s.Fuse(0); s.Sync("net") }, api.ErrDown},
		{func(s *shelf.Shelf) { s.Remove("net/root"); s.Fuse(0); s.Sync("net") }, api.ErrDown},
		{put("net/root", ""), api.ErrCorrupt},
		{put("net/root", "?"), api.ErrCorrupt},
		{put("net/root", string(whole[1:])), api.ErrCorrupt},
		{put("net/root", string(whole)+"\n"), api.ErrCorrupt},
		{put("net/root", empty), api.OK},
		{put(pool+".pack", "?"), api.ErrCorrupt},
		{put(pool+".idx", ""), api.ErrCorrupt},
		{put(own+".pack", "?"), api.ErrCorrupt},
		{put(own+".idx", ""), api.ErrCorrupt},
		{func(s *shelf.Shelf) { s.Remove(pool + ".pack") }, api.ErrCorrupt},
		{func(s *shelf.Shelf) { s.Remove(pool + ".idx") }, api.ErrCorrupt},
		{func(s *shelf.Shelf) { s.Remove(own + ".pack") }, api.ErrCorrupt},
		{func(s *shelf.Shelf) { s.Remove(own + ".idx") }, api.ErrCorrupt},
		// packs of another directory
		{with(func(s *shelf.Shelf, r *api.Root) { r.Forks[1].Packs = append(r.Forks[1].Packs, r.Pool[0]) }), api.OK}, // c has it, too
		{with(func(s *shelf.Shelf, r *api.Root) { r.Pool = append(r.Pool, r.Forks[1].Packs[0]) }), api.ErrCorrupt},
		{with(func(s *shelf.Shelf, r *api.Root) { r.Forks[1].Packs = append(r.Forks[1].Packs, r.Forks[0].Packs...) }), api.OK},
		// refs that are not sound of what a fork sees
		{with(func(s *shelf.Shelf, r *api.Root) { r.Pool = nil }), api.ErrCorrupt},
		{with(func(s *shelf.Shelf, r *api.Root) { r.Forks[2].Packs = nil }), api.ErrCorrupt},
		{with(func(s *shelf.Shelf, r *api.Root) { r.Forks[2].Linked = true }), api.OK},
		{with(func(s *shelf.Shelf, r *api.Root) { r.Forks[2].Linked, r.Forks[2].Packs = true, nil }), api.OK},
		{with(func(s *shelf.Shelf, r *api.Root) { r.Forks[0].Linked = false }), api.OK},
		{with(func(s *shelf.Shelf, r *api.Root) { r.Forks[1].Linked = false }), api.ErrCorrupt},
		{with(func(s *shelf.Shelf, r *api.Root) { r.Forks[1].Packs = nil }), api.ErrCorrupt},
		{with(func(s *shelf.Shelf, r *api.Root) { r.Forks[1].Packs, r.Forks[1].Refs = nil, nil }), api.OK},
		{with(func(s *shelf.Shelf, r *api.Root) { r.Forks[2].Refs[0].Id = id(three) }), api.ErrCorrupt},
		{with(func(s *shelf.Shelf, r *api.Root) { r.Forks[0].Refs[0].Id = id(three) }), api.OK},
		{with(func(s *shelf.Shelf, r *api.Root) {
			// It is of another kind than is named.
			bad := commit(one, "bad")
			r.Pool = append(r.Pool, save(s, "pool", bad))
			r.Forks[0].Refs[0].Id = id(bad)
		}), api.ErrCorrupt},
	} {
		x := clone(s)
		c.edit(x)
		ahead := state(x)
		n, e := net.Open(x)
		if e != c.want || (n == nil) != (e != api.OK) || e != api.OK && state(x) != ahead {
			t.Error(i, e)
		}
		if _, f := twinOpen(x); f != c.want {
			t.Error("the twin", i, f)
		}
	}
}

// P14.1, N2: what was left on the way is removed, and what is there is synced; the power may go in it.
func TestOpenCleans(t *testing.T) {
	s, n := village(t)
	was := whole(t, n)
	left := func(s *shelf.Shelf) {
		for _, path := range strings.Fields("net/root.new own/x own/y.pack pool/x.idx pool/z net/x other/own") {
			s.Write(path, []byte("left"))
		}
		save(s, "own", blob("left"))
		save(s, "pool", blob("left"))
	}
	want := append(files(n.Root()), "net/x", "other/own")
	slices.Sort(want)
	for fuse := 0; ; fuse++ {
		x, other := clone(s), clone(s)
		left(x)
		left(other)
		x.Fuse(fuse)
		other.Fuse(fuse)
		m, e := net.Open(x)
		if _, want := twinOpen(other); e != want || state(x) != state(other) {
			t.Error(fuse, e, want)
		}
		if e == api.ErrDown && m == nil && x.Down() {
			for _, keep := range [][]bool{nil, slices.Repeat([]bool{true}, x.Loose())} {
				x.Crash(keep)
				if m := open(t, x); whole(t, m) != was {
					t.Error(fuse)
				}
			}
			continue
		}
		if e != api.OK || whole(t, m) != was || !slices.Equal(paths(x), want) || x.Loose() != 1 || fuse != 12 {
			t.Error(fuse, e, paths(x), x.Loose())
		}
		break
	}
}

// P14.1, N3: Create
func TestCreate(t *testing.T) {
	s, n := fresh(t)
	for i, c := range []struct {
		name, from string
		want       api.Errno
	}{
		{"m", "", api.OK},
		{"m", "", api.ErrThere}, {"m", "m", api.ErrThere}, {"m", "No", api.ErrThere}, {"m", "z", api.ErrThere},
		{"", "", api.ErrArg}, {"", "m", api.ErrArg}, {"A", "", api.ErrArg}, {"A", "z", api.ErrArg}, {"a/b", "", api.ErrArg}, {"a.b", "", api.ErrArg}, {"é", "", api.ErrArg}, {"a\n", "", api.ErrArg},
		{strings.Repeat("a", 21), "", api.ErrArg}, {strings.Repeat("a", 20), "", api.OK},
		{"b", "z", api.ErrNone}, {"b", "b", api.ErrNone}, {"b", "A", api.ErrNone}, {"b", "\x00", api.ErrNone},
		{"b", "m", api.OK}, {"z", "b", api.OK}, {"-", "", api.OK}, {"0", "-", api.OK}, {"n", "m", api.OK},
	} {
		before, ahead := n.Root(), state(s)
		e := n.Create(c.name, c.from)
		if e != c.want || e != api.OK && (lines(n.Root()) != lines(before) || state(s) != ahead) {
			t.Error(i, e)
		}
		if e == api.OK {
			f := fork(t, n, c.name)
			if n.Root().Count != before.Count+1 || len(n.Root().Forks) != len(before.Forks)+1 || !f.Linked || f.Head != "heads/main" || len(f.Refs)+len(f.Packs)+len(n.Root().Pool) > 0 {
				t.Error(i, f)
			}
			for _, g := range before.Forks {
				if was := fork(t, n, g.Name); was.Head != g.Head {
					t.Error(i, g)
				}
			}
		}
	}
	if !root.Right(n.Root()) || len(n.Root().Forks) != 7 {
		t.Error(n.Root())
	}
}

// P14.1, N3; P14.3: a fork that is made of another one has what that has, by the pool.
func TestCreateFrom(t *testing.T) {
	s, n := village(t)
	for i, c := range []struct {
		name, from string
		packs      int // of the pool
		pool       []api.Obj
		has        []api.Obj
	}{
		{"d", "a", 2, []api.Obj{one, two, both, base, three, tree(one, two, three), more}, []api.Obj{one, two, both, base, three, tree(one, two, three), more}},
		{"e", "a", 2, nil, []api.Obj{one, two, both, base, three, tree(one, two, three), more}},
		{"f", "b", 3, []api.Obj{one, two, both, base, three, tree(one, two, three), more, four}, []api.Obj{one, two, both, base, four}},
		{"g", "f", 3, nil, []api.Obj{one, two, both, base, four}},
		{"h", "c", 3, nil, []api.Obj{one, two, both, base}},
	} {
		of := fork(t, n, c.from)
		held, _ := n.Held(c.from)
		ahead := n.Pool()
		ok(t, n.Create(c.name, c.from))
		f := fork(t, n, c.name)
		if !f.Linked || f.Head != of.Head || !slices.Equal(f.Refs, of.Refs) || len(f.Packs) > 0 || len(n.Root().Pool) != c.packs {
			t.Error(i, f)
		}
		if c.pool == nil && !slices.Equal(n.Pool(), ahead) {
			t.Error(i, "the pool has something else")
		}
		if c.pool != nil {
			pooled(t, n, c.pool...)
		}
		has(t, n, c.name, c.has...)
		has(t, n, c.from, c.has...)
		if now := fork(t, n, c.from); !slices.Equal(now.Packs, of.Packs) || now.Linked != of.Linked {
			t.Error(i, now)
		}
		if now, _ := n.Held(c.from); !slices.Equal(now, held) {
			t.Error(i, now)
		}
	}
	// Its refs are its own.
	push(t, n, "g", updates(from("tags/four", four)), nil)
	has(t, n, "f", one, two, both, base, four)
	// A head is handed on as it is.
	r := n.Root()
	r.Forks[0].Head = "heads/other"
	s.Write("net/root", []byte(lines(r)))
	m := open(t, s)
	ok(t, m.Create("x", "a"))
	ok(t, m.Create("y", ""))
	if fork(t, m, "x").Head != "heads/other" || fork(t, m, "y").Head != "heads/main" {
		t.Error(m.Root())
	}
	// Of what is alone the pool has it, too.
	ok(t, m.Detach("x"))
	push(t, m, "x", pin(blob("new")), of2("new"))
	ok(t, m.Create("z", "x"))
	if !contains(m.Pool(), id(blob("new"))) || fork(t, m, "x").Linked || !fork(t, m, "z").Linked {
		t.Error("not lent")
	}
}

func of2(words string) []byte { return of(blobs(words)...) }

// P14.1, N3: Delete. One that was made of it has all that it had, and what is of it alone is gone.
func TestDelete(t *testing.T) {
	s, n := village(t)
	for i, name := range []string{"", "z", "A", "a/b", "\xff"} {
		ahead := state(s)
		if e := n.Delete(name); e != api.ErrNone || state(s) != ahead {
			t.Error(i, e)
		}
	}
	ok(t, n.Create("d", "a"))
	was := n.Root()
	ok(t, n.Delete("a"))
	if r := n.Root(); r.Count != was.Count+1 || root.Find(r, "a") >= 0 || len(r.Forks) != 3 || !slices.Equal(r.Pool, was.Pool) || !slices.Equal(paths(s), files(r)) {
		t.Error(r)
	}
	has(t, n, "d", one, two, both, base, three, tree(one, two, three), more)
	has(t, n, "b", one, two, both, base, four)
	has(t, n, "c", one, two, both, base)
	if _, e := n.Held("a"); e != api.ErrNone || n.Delete("a") != api.ErrNone {
		t.Error(e)
	}
	// One of the same name has nothing of it.
	ok(t, n.Create("a", ""))
	has(t, n, "a")
	if e, _ := n.Push("a", pin(blob("x")), nil); e != api.ErrLack {
		t.Error(e)
	}
	ok(t, n.Delete("a"))
	push(t, n, "b", pin(blob("x")), of2("x"))
	ok(t, n.Delete("b"))
	ok(t, n.Create("b", ""))
	push(t, n, "b", pin(blob("x")), of2("x"))
	if f := fork(t, n, "b"); len(f.Packs) != 1 {
		t.Error("it sees what the one that is gone had", f)
	}
	has(t, open(t, clone(s)), "b", blob("x"))
	for _, name := range []string{"d", "b", "c"} {
		ok(t, n.Delete(name))
	}
	if r := n.Root(); len(r.Forks) != 0 || !slices.Equal(r.Pool, was.Pool) || len(n.Pool()) != 7 {
		t.Error(r)
	}
}

// P14.1, N3: two forks may have one pack: it stays while one has it.
func TestShared(t *testing.T) {
	s, n := fresh(t)
	for _, name := range []string{"a", "b"} {
		ok(t, n.Create(name, ""))
		push(t, n, name, pin(one, two), of(one, two))
	}
	if a, b := fork(t, n, "a"), fork(t, n, "b"); !slices.Equal(a.Packs, b.Packs) || len(s.Files()) != 3 {
		t.Error(a, b)
	}
	ok(t, n.Delete("a"))
	has(t, n, "b", one, two)
	s.Crash(nil)
	n = open(t, s)
	has(t, n, "b", one, two)
	// So may a fork, and the pool.
	ok(t, n.Create("a", "b"))
	if r := n.Root(); !slices.Equal(r.Pool, fork(t, n, "b").Packs) || len(s.Files()) != 5 {
		t.Error(r)
	}
	ok(t, n.Feed("b"))
	has(t, open(t, s), "a", one, two)
	has(t, open(t, s), "b", one, two)
}

// P14.1, N3; P14.5: Detach
func TestDetach(t *testing.T) {
	s, n := village(t)
	for _, c := range []struct {
		name string
		want api.Errno
	}{{"z", api.ErrNone}, {"", api.ErrNone}, {"A", api.ErrNone}, {"c", api.ErrArg}} {
		ahead := state(s)
		if e := n.Detach(c.name); e != c.want || state(s) != ahead {
			t.Error(c.name, e)
		}
		if e := n.Feed(c.name); e != c.want || state(s) != ahead {
			t.Error(c.name, e)
		}
	}
	was := n.Root()
	ok(t, n.Detach("b"))
	f := fork(t, n, "b")
	if f.Linked || len(f.Packs) != 1 || n.Root().Count != was.Count+1 || !slices.Equal(n.Root().Pool, was.Pool) || !slices.Equal(paths(s), files(n.Root())) {
		t.Error(f)
	}
	// Its one pack has what it has, whole, by rising names, and nothing that it has no more.
	l := walk.Set([]api.Obj{one, two, both, base, four})
	if !slices.Equal(entriesOf(t, s, "own", f.Packs[0]), pack.Whole(l)) {
		t.Error("another pack")
	}
	if n.Detach("b") != api.ErrArg || n.Feed("b") != api.ErrArg {
		t.Error("it is alone")
	}
	// It sees nothing of the pool any more, and needs nothing of it.
	if e, _ := n.Push("b", pin(three), nil); e != api.ErrLack {
		t.Error(e)
	}
	ok(t, n.Feed("a"))
	push(t, n, "b", pin(three), of(three))
	if len(fork(t, n, "b").Packs) != 2 {
		t.Error("what only the pool has is not its own")
	}
	ok(t, n.Delete("a"))
	ok(t, n.Prune())
	pooled(t, n)
	has(t, n, "b", one, two, both, base, four, three)
	has(t, n, "c", one, two, both, base)
	has(t, open(t, s), "b", one, two, both, base, four, three)
	// What has nothing has no pack.
	ok(t, n.Create("e", ""))
	ok(t, n.Detach("e"))
	if f := fork(t, n, "e"); f.Linked || len(f.Packs) > 0 {
		t.Error(f)
	}
}

// P14.1, N4: Feed
func TestFeed(t *testing.T) {
	s, n := village(t)
	all := []api.Obj{one, two, both, base}
	was := n.Root()
	ok(t, n.Feed("a"))
	r := n.Root()
	if r.Count != was.Count+1 || len(r.Pool) != 2 || r.Pool[0] != was.Pool[0] || len(fork(t, n, "a").Packs) > 0 || !slices.Equal(paths(s), files(r)) {
		t.Error(r)
	}
	l := walk.Set([]api.Obj{three, tree(one, two, three), more})
	if !slices.Equal(entriesOf(t, s, "pool", r.Pool[1]), pack.Whole(l)) {
		t.Error("another pack")
	}
	now := append(all, three, tree(one, two, three), more)
	pooled(t, n, now...)
	has(t, n, "a", now...)
	has(t, n, "b", append(all, four)...)
	// Fed once more, there is nothing to put into it; the change is one all the same.
	ok(t, n.Feed("a"))
	if again := n.Root(); again.Count != r.Count+1 || !slices.Equal(again.Pool, r.Pool) {
		t.Error(again)
	}
	// What a fork has no more, or never had, is not fed.
	ok(t, n.Feed("b"))
	pooled(t, n, append(now, four)...)
	if f := fork(t, n, "b"); len(f.Packs) > 0 {
		t.Error(f)
	}
	if e, _ := n.Push("b", pin(gone), nil); e != api.ErrLack {
		t.Error(e)
	}
	has(t, open(t, s), "b", append(all, four)...)
}

// P14.1, N4: Repack of a fork: what it has of its own, in one pack, by rising names; each may stand on each other.
func TestRepack(t *testing.T) {
	s, n := village(t)
	for _, name := range []string{"z", "A", "a/b", "\x00"} {
		ahead := state(s)
		if e := n.Repack(name); e != api.ErrNone || state(s) != ahead {
			t.Error(name, e)
		}
	}
	for i, c := range []struct {
		name string
		l    []api.Obj
	}{
		{"a", []api.Obj{three, tree(one, two, three), more}}, // it has taken its first push into the pool
		{"b", []api.Obj{four}},
		{"c", []api.Obj{one, two, both, base}},
	} {
		count := n.Root().Count
		held, _ := n.Held(c.name)
		for range 2 {
			ok(t, n.Repack(c.name))
			count++
			f := fork(t, n, c.name)
			if n.Root().Count != count || len(f.Packs) != 1 || !slices.Equal(paths(s), files(n.Root())) {
				t.Fatal(i, f)
			}
			if !slices.Equal(entriesOf(t, s, "own", f.Packs[0]), together(walk.Set(c.l))) {
				t.Error(i, "another pack")
			}
			if now, _ := n.Held(c.name); !slices.Equal(now, held) {
				t.Error(i, now)
			}
		}
	}
	if l := entriesOf(t, s, "own", fork(t, n, "c").Packs[0]); !slices.ContainsFunc(l, func(x api.Entry) bool { return x.Kind == api.Back }) {
		t.Error("no delta")
	}
	// What the pool has need not be one's own: then there is no pack.
	ok(t, n.Create("d", "a"))
	ok(t, n.Repack("a"))
	if f := fork(t, n, "a"); len(f.Packs) > 0 {
		t.Error(f)
	}
	has(t, open(t, s), "a", one, two, both, base, three, tree(one, two, three), more)
}

// long are n blobs, each like the one ahead of it.
func long(n int) []api.Obj {
	var l []api.Obj
	for i := range n {
		l = append(l, blob("a text that is long enough for a delta to be shorter than it is itself, by far, "+strconv.Itoa(i)))
	}
	return l
}

// P14.1, N4: nothing that is packed anew is deeper than 4, nor is it less than that where it could be.
func TestDeep(t *testing.T) {
	s, n := fresh(t)
	ok(t, n.Create("a", ""))
	l := long(40)
	x := tree2(l)
	push(t, n, "a", pin(x), of(append(l, x)...))
	deepest := func(dir, name string) int {
		entries := entriesOf(t, s, dir, name)
		deep, e := pack.Deep(entries, nil)
		if e != api.OK || len(deep) != 41 {
			t.Fatal(e, len(deep))
		}
		return slices.Max(deep)
	}
	ok(t, n.Repack("a"))
	if d := deepest("own", fork(t, n, "a").Packs[0]); d != 4 {
		t.Error(d)
	}
	ok(t, n.Feed("a"))
	if d := deepest("pool", n.Root().Pool[0]); d != 0 {
		t.Error(d)
	}
	ok(t, n.Repack(""))
	if d := deepest("pool", n.Root().Pool[0]); d != 4 {
		t.Error(d)
	}
	ok(t, n.Prune())
	if d := deepest("pool", n.Root().Pool[0]); d != 4 {
		t.Error(d)
	}
}

// plan is what the pool's one pack stands on: for each blob the one that it is a delta of.
func plan(t *testing.T, s *shelf.Shelf, n *net.Net) map[string]string {
	t.Helper()
	r := n.Root()
	if len(r.Pool) != 1 {
		t.Fatal(r.Pool)
	}
	l := entriesOf(t, s, "pool", r.Pool[0])
	objs, e := pack.Resolve(l, nil)
	ok(t, e)
	on := map[string]string{}
	for i, x := range l {
		if i > 0 && id(objs[i-1]) >= id(objs[i]) {
			t.Error("they do not rise")
		}
		if x.Kind == api.Back {
			on[id(objs[i])] = id(objs[i-x.Back])
		}
	}
	return on
}

// P14.1, N4; T5: the pool is packed anew by islands: what all have stands on nothing that not all have, who may come to it by their own alone.
func TestIslands(t *testing.T) {
	for i, fed := range []bool{true, false} {
		s, n := fresh(t)
		l := long(12)
		slices.SortFunc(l, func(a, b api.Obj) int { return strings.Compare(id(a), id(b)) })
		// b's are ahead of those of both, by rising names, and like them.
		his, common := l[:6], l[6:]
		ok(t, n.Create("a", ""))
		push(t, n, "a", updates(to("heads/main", commit(tree(common...), "1"))), of(append(common, tree(common...), commit(tree(common...), "1"))...))
		ok(t, n.Create("b", "a"))
		push(t, n, "b", pin(his...), of(his...))
		ok(t, n.Feed("b"))
		next := commit(tree(), "2", commit(tree(common...), "1"))
		push(t, n, "a", updates(move("heads/main", commit(tree(common...), "1"), next)), of(tree(), next))
		if fed {
			ok(t, n.Feed("a"))
		}
		pool := n.Pool()
		ok(t, n.Repack(""))
		if !slices.Equal(n.Pool(), pool) || !slices.Equal(paths(s), files(n.Root())) {
			t.Error(i, "the pool has something else")
		}
		on := plan(t, s, n)
		for _, o := range common {
			if base := on[id(o)]; slices.Contains(ids(his...), base) {
				t.Error(i, "stands on what is not a's")
			}
		}
		if len(on) < 8 || on[id(common[0])] != "" {
			t.Error(i, on)
		}
		// Once b is alone, it is no linked fork: nobody comes to his, so that they may stand on all, but nothing on them.
		ok(t, n.Detach("b"))
		ok(t, n.Repack(""))
		if on := plan(t, s, n); on[id(common[0])] != "" || len(on) < 8 {
			t.Error(i, on)
		}
		// Once a is alone, nobody comes to any but b, which has all.
		ok(t, n.Create("c", "b"))
		ok(t, n.Detach("a"))
		ok(t, n.Repack(""))
		if on := plan(t, s, n); on[id(common[0])] == "" {
			t.Error(i, on)
		}
	}
}

// P14.1, N4; P14.5: Prune
func TestPrune(t *testing.T) {
	s, n := village(t)
	was := n.Root()
	ok(t, n.Prune())
	r := n.Root()
	if r.Count != was.Count+1 || len(r.Pool) != 1 || len(r.Forks[0].Packs)+len(r.Forks[1].Packs) > 0 || !slices.Equal(r.Forks[2].Packs, was.Forks[2].Packs) || !slices.Equal(paths(s), files(r)) {
		t.Error(r)
	}
	all := []api.Obj{one, two, both, base}
	hers := append(slices.Clone(all), three, tree(one, two, three), more)
	pooled(t, n, append(slices.Clone(hers), four)...)
	has(t, n, "a", hers...)
	has(t, n, "b", append(slices.Clone(all), four)...)
	has(t, n, "c", all...)
	// Pruned once more it has one pack all the same; what nobody linked has is gone.
	ok(t, n.Prune())
	if again := n.Root(); !slices.Equal(again.Pool, r.Pool) || again.Count != r.Count+1 {
		t.Error(again)
	}
	ok(t, n.Detach("a"))
	ok(t, n.Prune())
	pooled(t, n, append(slices.Clone(all), four)...)
	has(t, n, "a", hers...)
	push(t, n, "b", updates(from("heads/main", base)), nil)
	ok(t, n.Prune())
	pooled(t, n, four)
	ok(t, n.Delete("b"))
	ok(t, n.Prune())
	pooled(t, n)
	if r := n.Root(); len(r.Pool) > 0 || len(s.Files()) != 5 {
		t.Error(r, paths(s))
	}
	has(t, open(t, s), "a", hers...)
	has(t, open(t, s), "c", all...)
	// Without forks, too.
	_, n = fresh(t)
	ok(t, n.Prune())
	ok(t, n.Repack(""))
	if r := n.Root(); r.Count != 2 || len(r.Pool) > 0 {
		t.Error(r)
	}
}

// P14.1, N5: errors, the first one that the words name; nothing is done then.
func TestPushRefused(t *testing.T) {
	s, n := village(t)
	cut := of(four)[1:]
	bad := bytesOf(api.Entry{Kind: api.Tree, Data: "?"})
	odd := commit(one, "odd")
	far := blob("far")
	for i, c := range []struct {
		name string
		u    []api.Update
		b    []byte
		want api.Errno
		at   int
	}{
		{"z", nil, cut, api.ErrNone, 0},
		{"", pin(far), of(far), api.ErrNone, 0},
		{"a", nil, nil, api.ErrArg, 0},
		{"a", nil, of(far), api.ErrArg, 0},
		{"a", pin(numbered(0, 17)...), cut, api.ErrArg, 0},
		{"a", updates(to("tags/x", far), to("x", far)), cut, api.ErrArg, 1},
		{"a", updates(to("tags/x", far), to("tags/x", far)), of(far), api.ErrArg, 1},
		{"a", updates(to("tags/x", far), to("heads/main", more)), cut, api.ErrStale, 1},
		{"a", updates(to("tags/x", far), from("tags/y", far)), bad, api.ErrStale, 1},
		{"a", updates(move("heads/main", base, more)), of(far), api.ErrStale, 0},
		{"a", updates(to("tags/x", far), to("heads/main/x", far)), cut, api.ErrThere, 1},
		{"a", pin(far), cut, api.ErrCorrupt, 0},
		{"a", pin(far), []byte("?"), api.ErrCorrupt, 0},
		{"a", pin(far), []byte{0}, api.ErrCorrupt, 0},
		{"a", pin(far), append(of(far), 0), api.ErrCorrupt, 0},
		{"a", pin(far), bad, api.ErrCorrupt, 0},
		{"a", pin(far), bytesOf(api.Entry{Kind: api.Base, Base: id(one), Data: "?"}), api.ErrCorrupt, 0},
		{"a", pin(far), bytesOf(on(blob("nowhere"), far)), api.ErrLack, 0},
		{"a", pin(far), nil, api.ErrLack, 0},
		{"a", pin(far), []byte{}, api.ErrLack, 0},
		{"a", pin(far), of(), api.ErrLack, 0},
		{"a", pin(far), of(blob("other")), api.ErrLack, 0},
		{"a", pin(commit(tree(far), "")), of(commit(tree(far), ""), tree(far)), api.ErrLack, 0},
		{"a", pin(odd), of(odd), api.ErrCorrupt, 0},
		{"a", append(pin(odd), to("tags/far", far)), of(odd), api.ErrLack, 0},
		{"a", append(pin(far), from("heads/main", more)), of(blob("other")), api.ErrLack, 0},
		// What others have, or had, or it had, it has not.
		{"a", pin(four), nil, api.ErrLack, 0},
		{"b", pin(gone), nil, api.ErrLack, 0},
		{"b", pin(three), nil, api.ErrLack, 0},
		{"a", pin(far), bytesOf(on(four, far)), api.ErrLack, 0},
		{"b", pin(far), bytesOf(on(gone, far)), api.ErrLack, 0},
		{"b", pin(far), bytesOf(on(three, far)), api.ErrLack, 0},
		{"c", pin(four), nil, api.ErrLack, 0},
		// What goes with this push is there still.
		{"b", append(pin(far), from("tags/four", four)), bytesOf(on(four, far)), api.OK, 0},
		{"b", pin(blob("near")), bytesOf(on(four, blob("near"))), api.ErrLack, 0},
	} {
		before, ahead := whole(t, n), state(s)
		if e, at := n.Push(c.name, c.u, c.b); e != c.want || at != c.at || e != api.OK && (whole(t, n) != before || state(s) != ahead) {
			t.Error(i, e, at)
		}
	}
}

// P14.1, N5; P14.4: what is pushed is there, once, and nothing beside it.
func TestPush(t *testing.T) {
	s, n := village(t)
	ok(t, n.Feed("b"))
	far, near := blob("this is a text of some length, far away"), blob("this is a text of some length, nearby")
	hers := []api.Obj{one, two, both, base, three, tree(one, two, three), more}
	for i, c := range []struct {
		u     []api.Update
		b     []byte
		has   []api.Obj
		saved []api.Obj // in a pack more; nil if there is none
	}{
		{pin(far), of(far, blob("other")), append(hers, far), []api.Obj{far}},
		{updates(to("tags/far", far)), nil, append(hers, far), nil},
		{updates(to("tags/one", one)), []byte{}, append(hers, far), nil},
		{updates(to("tags/both", both)), of(one, two, both, base, more), append(hers, far), nil},
		{updates(to("tags/near", near)), bytesOf(on(one, near)), append(hers, far, near), []api.Obj{near}},
		{updates(from("tags/near", near)), nil, append(hers, far), nil},
		// It sees what is its own still; it has to be sent all the same.
		{updates(to("tags/near", near)), of(near), append(hers, far, near), nil},
		// It sees what the pool has; it has to be sent all the same.
		{updates(to("tags/four", four)), of(four), append(hers, far, near, four), nil},
		{updates(from("heads/main", more), from("tags/far", far), from("tags/four", four)), nil, []api.Obj{one, two, both, far, near}, nil},
		{updates(from("tags/near", near)), of(blob("nobody asks for it")), []api.Obj{one, two, both, far}, nil},
		{updates(to("tags/near", near), to("heads/main", more)), of(append(hers, near)...), append(hers, far, near), nil},
		{updates(to("heads/b", blob("x")), to("heads/c", tree(blob("x"), blob("y")))), of(blob("z"), blob("y"), tree(blob("x"), blob("y")), blob("x"), blob("x")), append(hers, far, near, blob("x"), blob("y"), tree(blob("x"), blob("y"))), []api.Obj{blob("x"), blob("y"), tree(blob("x"), blob("y"))}},
	} {
		was := fork(t, n, "a")
		count := n.Root().Count
		others := []string{}
		for _, name := range []string{"b", "c"} {
			l, _ := n.Held(name)
			others = append(others, strings.Join(idsOf(l), " "))
		}
		push(t, n, "a", c.u, c.b)
		f := fork(t, n, "a")
		has(t, n, "a", c.has...)
		if n.Root().Count != count+1 || !slices.Equal(f.Packs[:len(was.Packs)], was.Packs) || !slices.Equal(paths(s), files(n.Root())) {
			t.Error(i, f)
		}
		if (len(f.Packs) > len(was.Packs)) != (c.saved != nil) {
			t.Error(i, len(f.Packs))
		}
		if c.saved != nil && !slices.Equal(entriesOf(t, s, "own", f.Packs[len(was.Packs)]), pack.Whole(walk.Set(c.saved))) {
			t.Error(i, "another pack")
		}
		for k, name := range []string{"b", "c"} {
			if l, _ := n.Held(name); strings.Join(idsOf(l), " ") != others[k] {
				t.Error(i, name)
			}
		}
		for _, u := range c.u {
			if r := slices.IndexFunc(f.Refs, func(r api.Ref) bool { return r.Name == u.Name }); (r >= 0) != (u.New != "") || r >= 0 && f.Refs[r].Id != u.New {
				t.Error(i, u)
			}
		}
		if m := open(t, clone(s)); whole(t, m) != whole(t, n) {
			t.Error(i, "another net is opened")
		}
	}
}

func idsOf(l []api.Held) []string {
	var out []string
	for _, h := range l {
		out = append(out, h.Id)
	}
	return out
}

// P14.1, N6
func TestFetch(t *testing.T) {
	s, n := village(t)
	ok(t, n.Feed("b"))
	all := []api.Obj{one, two, both, base, three, tree(one, two, three), more}
	for i, c := range []struct {
		name         string
		wants, haves []string
		want         api.Errno
		l            []api.Obj
	}{
		{"a", ids(more), nil, api.OK, all},
		{"a", ids(more), ids(base), api.OK, all[4:]},
		{"a", ids(more, more), ids(base, one, gone), api.OK, all[4:]},
		{"a", ids(more), ids(more), api.OK, nil},
		{"a", ids(more), ids(both), api.OK, all[3:]},
		// What others have, it has not: that one has it changes nothing.
		{"a", ids(more), ids(four), api.OK, all},
		{"a", ids(more), []string{"", "x"}, api.OK, all},
		{"b", ids(base), nil, api.OK, all[:4]},
		{"b", ids(base, four), ids(base), api.OK, []api.Obj{four}},
		{"b", ids(base, four), ids(more), api.OK, []api.Obj{one, two, both, base, four}},
		{"c", ids(base), ids(four), api.OK, all[:4]},
		{"z", ids(more), nil, api.ErrNone, nil},
		{"", nil, nil, api.ErrNone, nil},
		{"a", nil, nil, api.ErrArg, nil},
		{"a", nil, ids(base), api.ErrArg, nil},
		{"a", ids(base), nil, api.ErrArg, nil}, // it has it, but it is no tip
		{"a", ids(more, base), nil, api.ErrArg, nil},
		{"a", ids(four), nil, api.ErrArg, nil},
		{"b", ids(gone), nil, api.ErrArg, nil},
		{"c", ids(four), nil, api.ErrArg, nil},
		{"a", []string{""}, nil, api.ErrArg, nil},
		{"a", []string{"x"}, nil, api.ErrArg, nil},
	} {
		for _, power := range []bool{true, false} {
			ahead := state(s)
			b, e := n.Fetch(c.name, c.wants, c.haves)
			var want []byte
			if c.want == api.OK {
				want, _ = pack.Put(pack.Whole(walk.Set(c.l)))
			}
			if e != c.want || !bytes.Equal(b, want) || state(s) != ahead {
				t.Error(i, power, e)
			}
			// No power is needed.
			if power {
				s.Fuse(0)
				s.Sync("net")
			}
		}
		s.Crash(nil)
	}
}

// lay is a net of a root and packs that nobody pushed.
func lay(t *testing.T, r api.Root, own [][]api.Obj, pool [][]api.Obj) (*shelf.Shelf, *net.Net) {
	t.Helper()
	s := shelf.New(room)
	for _, l := range own {
		r.Forks[0].Packs = append(r.Forks[0].Packs, save(s, "own", l...))
	}
	for _, l := range pool {
		r.Pool = append(r.Pool, save(s, "pool", l...))
	}
	s.Write("net/root", []byte(lines(r)))
	return s, open(t, s)
}

// refused checks a change that is one too many: nothing of it is left, nor of what lay about, and nobody has anything else.
func refused(t *testing.T, s *shelf.Shelf, n *net.Net, want api.Errno, change func() api.Errno) {
	t.Helper()
	was := whole(t, n)
	s.Write("own/x", nil)
	s.Write("pool/x", nil)
	s.Write("net/root.new", nil)
	if e := change(); e != want || whole(t, n) != was || !slices.Equal(paths(s), files(n.Root())) {
		t.Errorf("%v: %v", e, paths(s))
	}
	s.Sync("own")
	s.Sync("pool")
	s.Crash(nil)
	if m := open(t, s); whole(t, m) != was {
		t.Error("another net is opened")
	}
}

// P14.1, P14.2: as many forks as may be, and one more.
func TestForks(t *testing.T) {
	s, n := village(t)
	for i := range api.MaxForks - 3 {
		ok(t, n.Create("x"+strconv.Itoa(i), []string{"", "c"}[i%2]))
	}
	if len(n.Root().Forks) != 16 {
		t.Error(len(n.Root().Forks))
	}
	refused(t, s, n, api.ErrTooMany, func() api.Errno { return n.Create("y", "") })
	refused(t, s, n, api.ErrTooMany, func() api.Errno { return n.Create("y", "c") })
	refused(t, s, n, api.ErrTooMany, func() api.Errno { return n.Create("y", "a") })
	if e := n.Create("a", ""); e != api.ErrThere {
		t.Error(e)
	}
	// The pack would be saved ahead of that.
	s.Fuse(0)
	if e := n.Create("y", ""); e != api.ErrTooMany || s.Down() {
		t.Error(e)
	}
	if e := n.Create("y", "a"); e != api.ErrDown || !s.Down() {
		t.Error(e)
	}
	if e := n.Create("y", ""); e != api.ErrTooMany {
		t.Error(e)
	}
	s.Crash(nil)
	ok(t, n.Delete("b"))
	ok(t, n.Create("y", "a"))
}

// P14.1, P14.2: as many packs as may be, and one more.
func TestPacks(t *testing.T) {
	s, n := fresh(t)
	l := numbered(0, 60)
	ok(t, n.Create("a", ""))
	for i := range api.MaxPacks {
		push(t, n, "a", pin(l[i]), of(l[i]))
	}
	refused(t, s, n, api.ErrTooMany, func() api.Errno { e, _ := n.Push("a", pin(l[24]), of(l[24])); return e })
	push(t, n, "a", updates(to("heads/x", l[0])), of(l[24]))
	ok(t, n.Repack("a"))
	push(t, n, "a", pin(l[24]), of(l[24]))
	// So of the pool.
	for i := range api.MaxPacks {
		ok(t, n.Feed("a"))
		push(t, n, "a", pin(l[25+i]), of(l[25+i]))
	}
	if r := n.Root(); len(r.Pool) != api.MaxPacks {
		t.Error(len(r.Pool))
	}
	refused(t, s, n, api.ErrTooMany, func() api.Errno { return n.Feed("a") })
	refused(t, s, n, api.ErrTooMany, func() api.Errno { return n.Create("b", "a") })
	ok(t, n.Create("b", ""))
	ok(t, n.Feed("b"))
	ok(t, n.Repack(""))
	ok(t, n.Feed("a"))
	has(t, open(t, s), "a", l[:49]...)
	pooled(t, open(t, s), l[:49]...)
}

// P14.1, P14.2: as many objects as a fork may have, and one more.
func TestObjects(t *testing.T) {
	s, n := fresh(t)
	ok(t, n.Create("a", ""))
	l := numbered(0, 256)
	first, rest := tree2(l), numbered(1000, 255)
	push(t, n, "a", pin(first), of(append(l, first)...))
	more := tree2(rest)
	refusedAhead(t, s, n, func() api.Errno { e, _ := n.Push("a", pin(more), of(append(rest, more)...)); return e })
	less := tree2(rest[:254])
	push(t, n, "a", pin(less), of(append(rest[:254:254], less)...))
	if held, _ := n.Held("a"); len(held) != api.MaxObjects {
		t.Error(len(held))
	}
	refusedAhead(t, s, n, func() api.Errno { e, _ := n.Push("a", pin(rest[254]), of(rest[254])); return e })
	push(t, n, "a", pin(rest[0]), of(rest[254]))
	ok(t, n.Repack("a"))
	if b, e := n.Fetch("a", ids(first, less), nil); e != api.OK || len(b) < 512*3 {
		t.Error(e)
	}
	ok(t, n.Create("b", "a"))
	// What goes makes room.
	push(t, n, "b", append(pin(blob("new")), from("tags/"+id(first)[:8], first)), of2("new"))
	ok(t, n.Detach("a"))
	// The pool has more than one pack can have.
	ok(t, n.Feed("b"))
	if len(n.Pool()) != api.MaxObjects+1 {
		t.Error(len(n.Pool()))
	}
	refused(t, s, n, api.ErrTooMany, func() api.Errno { return n.Repack("") })
	ok(t, n.Create("c", "a"))
	refused(t, s, n, api.ErrTooMany, n.Prune)
	// This is told ahead of all acts.
	s.Fuse(0)
	if e := n.Prune(); e != api.ErrTooMany || s.Down() {
		t.Error(e)
	}
	s.Fuse(-1)
	ok(t, n.Delete("c"))
	ok(t, n.Prune())
	ok(t, n.Repack(""))
}

// tree2 has as many files as a tree may have.
func tree2(l []api.Obj) api.Obj {
	var items []api.Item
	for i, o := range l {
		items = append(items, api.Item{Mode: api.Plain, Name: strconv.Itoa(1000 + i), Id: id(o)})
	}
	return right(api.Tree)(object.PutTree(items))
}

// refusedAhead checks what is refused ahead of any change: nothing is done, nor is anything cleaned.
func refusedAhead(t *testing.T, s *shelf.Shelf, n *net.Net, do func() api.Errno) {
	t.Helper()
	was := whole(t, n)
	s.Write("own/x", nil)
	ahead := state(s)
	if e := do(); e != api.ErrTooMany || whole(t, n) != was || state(s) != ahead {
		t.Error(e)
	}
	s.Remove("own/x")
}

// P14.1, P14.2: a fork that has more than could be pushed to it.
func TestTooMany(t *testing.T) {
	l := numbered(0, 600)
	trees := []api.Obj{tree2(l[:200]), tree2(l[200:400]), tree2(l[400:])}
	a := api.Fork{Name: "a", Linked: true, Head: "heads/main", Refs: []api.Ref{{Name: "heads/a", Id: id(trees[0])}, {Name: "heads/b", Id: id(trees[1])}, {Name: "heads/c", Id: id(trees[2])}}}
	packs := [][]api.Obj{append(slices.Clone(l[:200]), trees...), l[200:400], l[400:]}
	s, n := lay(t, api.Root{Forks: []api.Fork{a}}, packs, nil)
	if held, e := n.Held("a"); e != api.OK || len(held) != 603 {
		t.Fatal(len(held), e)
	}
	for _, change := range []func() api.Errno{
		func() api.Errno { return n.Create("b", "a") },
		func() api.Errno { return n.Detach("a") },
		func() api.Errno { return n.Feed("a") },
		func() api.Errno { return n.Repack("a") },
		n.Prune,
	} {
		refused(t, s, n, api.ErrTooMany, change)
	}
	if b, e := n.Fetch("a", ids(trees...), nil); e != api.ErrArg || len(b) > 0 {
		t.Error(e)
	}
	if b, e := n.Fetch("a", ids(trees[:2]...), ids(trees[1:]...)); e != api.OK || len(b) == 0 {
		t.Error(e)
	}
	refusedAhead(t, s, n, func() api.Errno { e, _ := n.Push("a", updates(to("tags/x", l[0])), nil); return e })
	if e, _ := n.Push("a", updates(to("tags/x", blob("x"))), nil); e != api.ErrLack {
		t.Error(e)
	}
	push(t, n, "a", updates(from("heads/c", trees[2])), nil)
	ok(t, n.Repack("a"))
	ok(t, n.Repack(""))
}

// P14.1, P14.2: packs whose bytes are more than a file may have.
func TestBytes(t *testing.T) {
	s, n := fresh(t)
	ok(t, n.Create("a", ""))
	var wide []api.Obj
	for i := range 5 {
		wide = append(wide, blob(strings.Repeat(string([]byte{'a' + byte(i)}), api.MaxData)))
	}
	push(t, n, "a", pin(wide[:3]...), of(wide[:3]...))
	push(t, n, "a", pin(wide[3:]...), of(wide[3:]...))
	for _, change := range []func() api.Errno{
		func() api.Errno { return n.Create("b", "a") },
		func() api.Errno { return n.Detach("a") },
		func() api.Errno { return n.Feed("a") },
		func() api.Errno { return n.Repack("a") },
		n.Prune,
	} {
		refused(t, s, n, api.ErrTooMany, change)
	}
	if b, e := n.Fetch("a", ids(wide...), nil); e != api.ErrTooMany || len(b) > 0 {
		t.Error(e)
	}
	if b, e := n.Fetch("a", ids(wide...), ids(wide[0], wide[4])); e != api.OK || len(b) < 3*api.MaxData {
		t.Error(e)
	}
	// What is like one another has room, packed anew; whole it has not.
	var alike []api.Update
	var entries []api.Entry
	for i := range 5 {
		o := blob(wide[0].Data[:api.MaxData-10] + strconv.Itoa(i))
		entries = append(entries, on(wide[0], o))
		alike = append(alike, pin(o)...)
	}
	ok(t, n.Create("c", ""))
	push(t, n, "c", pin(wide[0]), of(wide[0]))
	refused(t, s, n, api.ErrTooMany, func() api.Errno { e, _ := n.Push("c", alike, bytesOf(entries...)); return e })
	push(t, n, "c", alike[:2], bytesOf(entries[:2]...))
	push(t, n, "c", alike[2:], bytesOf(entries[2:]...))
	refused(t, s, n, api.ErrTooMany, func() api.Errno { return n.Feed("c") })
	ok(t, n.Repack("c"))
	if l := entriesOf(t, s, "own", fork(t, n, "c").Packs[0]); len(l) != 6 {
		t.Error(len(l))
	}
	ok(t, n.Delete("a"))
	ok(t, n.Prune())
}

// P14.1: a net that was changed as often as may be is changed no more.
func TestCount(t *testing.T) {
	a := api.Fork{Name: "a", Linked: true, Head: "heads/main", Refs: []api.Ref{{Name: "heads/a", Id: id(one)}}}
	s, n := lay(t, api.Root{Count: 1<<40 - 1, Forks: []api.Fork{a}}, [][]api.Obj{{one}}, [][]api.Obj{{two}})
	push(t, n, "a", pin(one), nil)
	for _, change := range []func() api.Errno{
		func() api.Errno { return n.Create("b", "a") },
		func() api.Errno { return n.Delete("a") },
		func() api.Errno { return n.Detach("a") },
		func() api.Errno { return n.Feed("a") },
		func() api.Errno { return n.Repack("a") },
		func() api.Errno { return n.Repack("") },
		n.Prune,
		func() api.Errno { e, _ := n.Push("a", pin(three), of(three)); return e },
	} {
		refused(t, s, n, api.ErrTooMany, change)
	}
	if n.Root().Count != 1<<40 || n.Create("a", "") != api.ErrThere {
		t.Error(n.Root())
	}
}

// P14.1, N5: refs more than may be, told of the first update.
func TestRefs(t *testing.T) {
	_, n := fresh(t)
	ok(t, n.Create("a", ""))
	l := numbered(0, api.MaxRefs+1)
	for i := 0; i < api.MaxRefs; i += api.MaxUpdates {
		push(t, n, "a", pin(l[i:i+api.MaxUpdates]...), of(l[i:i+api.MaxUpdates]...))
	}
	u := append(pin(l[64]), move("tags/"+id(l[0])[:8], l[0], l[1]))
	if e, at := n.Push("a", u, of(l[64])); e != api.ErrTooMany || at != 0 {
		t.Error(e, at)
	}
	push(t, n, "a", append(pin(l[64]), from("tags/"+id(l[0])[:8], l[0])), of(l[64]))
	has(t, n, "a", l[1:]...)
}

// P14.1, N2: what there is of a fork that is not there.
func TestHeld(t *testing.T) {
	s, n := village(t)
	for _, name := range []string{"", "z", "A", "a\n", "net/root"} {
		if l, e := n.Held(name); e != api.ErrNone || len(l) > 0 {
			t.Error(name, e)
		}
	}
	has(t, n, "a", one, two, both, base, three, tree(one, two, three), more)
	has(t, n, "b", one, two, both, base, four)
	has(t, n, "c", one, two, both, base)
	pooled(t, n, one, two, both, base)
	// No power is needed, nor what is on the shelf.
	was := whole(t, n)
	s.Write("net/root", nil)
	s.Fuse(0)
	s.Sync("net")
	if whole(t, n) != was {
		t.Error("another one")
	}
}

// P2: arguments are looked at ahead of the power.
func TestDark(t *testing.T) {
	s, n := village(t)
	s.Fuse(0)
	s.Sync("net")
	ahead := state(s)
	for i, c := range []struct{ e, want api.Errno }{
		{n.Create("A", ""), api.ErrArg}, {n.Create("a", ""), api.ErrThere}, {n.Create("z", "y"), api.ErrNone}, {n.Create("z", ""), api.ErrDown}, {n.Create("z", "a"), api.ErrDown},
		{n.Delete("z"), api.ErrNone}, {n.Delete("a"), api.ErrDown},
		{n.Detach("z"), api.ErrNone}, {n.Detach("c"), api.ErrArg}, {n.Detach("a"), api.ErrDown},
		{n.Feed("z"), api.ErrNone}, {n.Feed("c"), api.ErrArg}, {n.Feed("a"), api.ErrDown},
		{n.Repack("z"), api.ErrNone}, {n.Repack("a"), api.ErrDown}, {n.Repack(""), api.ErrDown}, {n.Prune(), api.ErrDown},
	} {
		if c.e != c.want {
			t.Error(i, c.e)
		}
	}
	for i, c := range []struct {
		u    []api.Update
		b    []byte
		want api.Errno
	}{{nil, nil, api.ErrArg}, {pin(four), []byte("?"), api.ErrCorrupt}, {pin(four), nil, api.ErrLack}, {pin(four), of(four), api.ErrDown}, {pin(one), nil, api.ErrDown}} {
		if e, at := n.Push("a", c.u, c.b); e != c.want || at != 0 {
			t.Error(i, e, at)
		}
	}
	if state(s) != ahead {
		t.Error("something was done")
	}
}

// P3: what is handed in is not changed, nor its spare room, and not kept.
func TestHandedIn(t *testing.T) {
	s, n := village(t)
	u := append(make([]api.Update, 0, 5), pin(blob("far"))...)
	b := append(make([]byte, 0, 1000), of2("far")...)
	names := append(make([]string, 0, 5), id(more))
	u2, b2, names2 := slices.Clone(u[:5]), slices.Clone(b[:1000]), slices.Clone(names[:5])
	push(t, n, "a", u, b)
	for range 2 {
		if _, e := n.Fetch("a", names, names); e != api.OK {
			t.Error(e)
		}
	}
	if !slices.Equal(u[:5], u2) || !slices.Equal(b[:1000], b2) || !slices.Equal(names[:5], names2) {
		t.Error("something was changed")
	}
	was := whole(t, n)
	u[0] = api.Update{}
	clear(b)
	if whole(t, n) != was || whole(t, open(t, s)) != was {
		t.Error("something was kept")
	}
}

// P3: what comes out is new memory.
func TestComeOut(t *testing.T) {
	s, n := village(t)
	was := whole(t, n)
	spoil := func(l []api.Held) {
		for i := range l[:cap(l)] {
			l[:cap(l)][i] = api.Held{Id: "x"}
		}
	}
	for range 2 {
		r := n.Root()
		for i := range r.Forks {
			f := &r.Forks[i]
			for k := range f.Refs[:cap(f.Refs)] {
				f.Refs[:cap(f.Refs)][k] = api.Ref{}
			}
			for k := range f.Packs[:cap(f.Packs)] {
				f.Packs[:cap(f.Packs)][k] = ""
			}
		}
		clear(r.Forks[:cap(r.Forks)])
		clear(r.Pool[:cap(r.Pool)])
		spoil(n.Pool())
		for _, name := range []string{"a", "b", "c"} {
			l, _ := n.Held(name)
			spoil(l)
		}
		b, _ := n.Fetch("a", ids(more), nil)
		clear(b[:cap(b)])
		if whole(t, n) != was {
			t.Fatal("another net")
		}
		ok(t, n.Create("x", "a"))
		ok(t, n.Delete("x"))
		ok(t, n.Feed("a"))
		ok(t, n.Prune())
		if whole(t, open(t, s)) != whole(t, n) {
			t.Fatal("another net on the shelf")
		}
		was = whole(t, n)
	}
}

// P3: nets know nothing of one another; of one shelf the one that is opened later is as the first one left it.
func TestAlone(t *testing.T) {
	var w sync.WaitGroup
	for k := range 6 {
		w.Go(func() {
			s := shelf.New(room)
			net.Init(s)
			n, _ := net.Open(s)
			for i := range 8 {
				name := "f" + strconv.Itoa(i)
				o := blob(strconv.Itoa(k*100 + i))
				e1 := n.Create(name, []string{"", "f0"}[min(i, 1)])
				e2, _ := n.Push(name, pin(o), of(o))
				l, e3 := n.Held(name)
				m, e4 := net.Open(s)
				if e1 != api.OK || e2 != api.OK || e3 != api.OK || e4 != api.OK || len(l) != 1+min(i, 1) || lines(m.Root()) != lines(n.Root()) {
					t.Error(k, i, e1, e2, e3, e4, len(l))
				}
			}
		})
	}
	w.Wait()
}

// P1: nets as great as they may be.
func TestMany(t *testing.T) {
	s, n := fresh(t)
	for i := range api.MaxForks {
		name := "f" + strconv.Itoa(i)
		ok(t, n.Create(name, ""))
		for k := range 11 {
			l := numbered(i*10000+k*100, 40)
			x := tree2(l)
			push(t, n, name, pin(x), of(append(l, x)...))
		}
	}
	if m := open(t, s); lines(m.Root()) != lines(n.Root()) || len(s.Files()) != 353 {
		t.Error(len(s.Files()))
	}
	for i := range api.MaxForks {
		ok(t, n.Feed("f"+strconv.Itoa(i)))
	}
	if e := n.Prune(); e != api.ErrTooMany || len(n.Pool()) != 16*11*41 || len(n.Root().Pool) != 16 {
		t.Error(e, len(n.Pool()))
	}
	// A row of commits, each on the one ahead of it.
	x := commit(tree(), "0")
	row := []api.Obj{tree(), x}
	for i := range api.MaxObjects - 2 {
		x = commit(tree(), strconv.Itoa(i), x)
		row = append(row, x)
	}
	ok(t, n.Delete("f0"))
	ok(t, n.Create("row", ""))
	push(t, n, "row", pin(x), of(row...))
	ok(t, n.Repack("row"))
	ok(t, n.Detach("row"))
	has(t, open(t, s), "row", row...)
}
