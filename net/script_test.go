package net_test

import (
	"bytes"
	"maps"
	"math/rand"
	"slices"
	"strconv"
	"testing"

	"sacristy/api"
	"sacristy/net"
	"sacristy/pack"
	"sacristy/refs"
	"sacristy/root"
	"sacristy/shelf"
	"sacristy/walk"
)

// universe is all that anybody ever pushes: texts that are like one another, on which trees, commits and tags stand; the last ones name something of another kind than it is.
func universe(r *rand.Rand) []api.Held {
	var blobs, trees, commits, l []api.Obj
	for i := range 8 {
		blobs = append(blobs, blob("this is a text that others are like, but for its number "+strconv.Itoa(i)))
	}
	any := func(l []api.Obj) api.Obj { return l[r.Intn(len(l))] }
	for range 6 {
		trees = append(trees, tree(any(blobs), any(blobs), any(append(trees, blobs...))))
	}
	commits = append(commits, commit(trees[0], "first"))
	for i := range 8 {
		commits = append(commits, commit(any(trees), strconv.Itoa(i), any(commits)))
	}
	l = slices.Concat(blobs, trees, commits)
	l = append(l, tag(any(commits)), tag(any(blobs)), tag(any(trees)))
	wrong := blob("wrong")
	l = append(l, wrong, commit(wrong, "wrong"), tree(api.Obj{Kind: api.Blob, Data: "nobody has it"}))
	return walk.Set(l)
}

// script is two shelves on which the same is done, by net and by its twin.
type script struct {
	r           *rand.Rand
	all         []api.Held
	mine, other *shelf.Shelf
	n           *net.Net
	w           *twin
	cut         bool // whether the power went in a call
	met         map[string]int
}

func start(t *testing.T, seed int64, met map[string]int) *script {
	t.Helper()
	r := rand.New(rand.NewSource(seed))
	size := []int{room, room, 3000 + r.Intn(9000)}[r.Intn(3)]
	p := &script{r, universe(r), shelf.New(size), shelf.New(size), nil, nil, false, met}
	ok(t, net.Init(p.mine))
	ok(t, twinInit(p.other))
	p.open(t)
	return p
}

func (p *script) open(t *testing.T) {
	t.Helper()
	var e, want api.Errno
	p.n, e = net.Open(p.mine)
	p.w, want = twinOpen(p.other)
	if e != want || (p.n == nil) != (e != api.OK) || state(p.mine) != state(p.other) {
		t.Fatal("open", e, want)
	}
	p.met["open "+e.Error()]++
}

func (p *script) one(l ...string) string { return l[p.r.Intn(len(l))] }

// name is mostly that of a fork that is there.
func (p *script) name() string {
	if l := p.n.Root().Forks; len(l) > 0 && p.r.Intn(6) > 0 {
		return l[p.r.Intn(len(l))].Name
	}
	return p.one("a", "b", "c", "d", "e-1", "", "No")
}

func (p *script) object() string { return p.all[p.r.Intn(len(p.all))].Id }

// step does one thing, with which nothing but that may change, and with an error nothing at all.
func (p *script) step(t *testing.T) {
	t.Helper()
	ahead := whole(t, p.n)
	held := p.helds(t)
	name := p.name()
	what, name, e := p.act(t, name)
	p.met[what+" "+e.Error()]++
	p.cut = p.cut || e == api.ErrDown
	if lines(p.n.Root()) != lines(p.w.r) || !slices.Equal(p.n.Pool(), p.w.pool()) || state(p.mine) != state(p.other) {
		t.Fatalf("%s of %s: another root, pool or shelf:\n%s\n%s", what, name, lines(p.n.Root()), lines(p.w.r))
	}
	if e != api.OK && whole(t, p.n) != ahead {
		t.Fatalf("%s of %s: %v, and another net", what, name, e)
	}
	p.kept(t)
	// P14.3; behind a crash what was under way may be there.
	now := p.helds(t)
	if what == "push" || what == "delete" || what == "create" {
		delete(held, name)
		delete(now, name)
	}
	if what != "touch" && !maps.EqualFunc(held, now, slices.Equal) {
		t.Fatalf("%s of %s: another one has something else", what, name)
	}
	if e == api.OK && (what == "prune" || what == "repack" && name == "") {
		p.packed(t, what)
	}
}

// act does the same by both: what, to whom, and what came of it.
func (p *script) act(t *testing.T, name string) (string, string, api.Errno) {
	t.Helper()
	var what string
	var e, want api.Errno
	switch k := p.r.Intn(100); {
	case k < 14:
		with := p.one("", p.name())
		if p.r.Intn(2) > 0 {
			name = p.one("a", "b", "c", "d", "e-1")
		}
		what, e, want = "create", p.n.Create(name, with), p.w.create(name, with)
	case k < 17:
		what, e, want = "delete", p.n.Delete(name), p.w.delete(name)
	case k < 20:
		what, e, want = "detach", p.n.Detach(name), p.w.detach(name)
	case k < 28:
		what, e, want = "feed", p.n.Feed(name), p.w.feed(name)
	case k < 40:
		if p.r.Intn(3) == 0 {
			name = ""
		}
		what, e, want = "repack", p.n.Repack(name), p.w.repack(name)
	case k < 43:
		what, e, want = "prune", p.n.Prune(), p.w.prune()
	case k < 80:
		u := p.updates(name)
		b := p.bytes(name, u)
		e1, at1 := p.n.Push(name, u, b)
		e2, at2 := p.w.push(name, u, b)
		if at1 != at2 {
			t.Fatal("push", name, at1, at2)
		}
		what, e, want = "push", e1, e2
	case k < 90:
		wants, haves := p.tips(name), p.tips(name)
		b1, e1 := p.n.Fetch(name, wants, haves)
		b2, e2 := p.w.fetch(name, wants, haves)
		if !bytes.Equal(b1, b2) {
			t.Fatal("fetch", name)
		}
		what, e, want = "fetch", e1, e2
	default:
		p.touch(t)
		return "touch", name, api.OK
	}
	if e != want {
		t.Fatalf("%s of %s: %v, not %v", what, name, e, want)
	}
	return what, name, e
}

// refs are those of a fork, if it is there.
func (p *script) refs(name string) []api.Ref {
	r := p.n.Root()
	i := root.Find(r, name)
	if i < 0 {
		return nil
	}
	return r.Forks[i].Refs
}

func (p *script) updates(name string) []api.Update {
	var u []api.Update
	for range 1 + p.r.Intn(3) - p.r.Intn(20)/19 {
		x := api.Update{Name: p.one("heads/main", "heads/a", "heads/a/b", "tags/x", "tags/y", "tags/z")}
		x.Old = refs.Find(p.refs(name), x.Name)
		if x.Old == "" || p.r.Intn(4) > 0 {
			x.New = p.object()
		}
		switch p.r.Intn(60) {
		case 0:
			x.Name = "main"
		case 1:
			x.Old = p.object()
		case 2:
			x.New = "x"
		}
		u = append(u, x)
	}
	return u
}

// bytes are a pack of what updates need, most of the time.
func (p *script) bytes(name string, u []api.Update) []byte {
	held, _ := p.n.Held(name)
	var tips []string
	for _, x := range u {
		tips = append(tips, x.New)
	}
	come, _ := walk.Closure(p.all, tips)
	l := walk.Pick(p.all, come)
	if p.r.Intn(4) > 0 {
		l = less(l, held)
	}
	for range p.r.Intn(3) * p.r.Intn(2) {
		l = walk.Join(l, walk.Pick(p.all, []string{p.object()}))
	}
	if len(l) > 0 && p.r.Intn(12) == 0 {
		l = slices.Delete(l, 0, 1)
	}
	p.r.Shuffle(len(l), func(i, j int) { l[i], l[j] = l[j], l[i] })
	var entries []api.Entry
	for _, h := range l {
		entries = append(entries, p.entry(h, held, l))
	}
	b := bytesOf(entries...)
	switch p.r.Intn(40) {
	case 0:
		return nil
	case 1:
		b[p.r.Intn(len(b))] ^= 1
	}
	if len(l) == 0 && p.r.Intn(2) == 0 {
		return nil
	}
	return b
}

// entry is a whole one, or a delta of what the fork has, of what is beside it, or of anything.
func (p *script) entry(h api.Held, rows ...[]api.Held) api.Entry {
	if p.r.Intn(25) == 0 {
		rows = append(rows, p.all)
	}
	row := rows[p.r.Intn(len(rows))]
	if len(row) > 0 && p.r.Intn(3) == 0 {
		base := row[p.r.Intn(len(row))]
		if base.Obj.Kind == h.Obj.Kind && base.Id < h.Id {
			return on(base.Obj, h.Obj)
		}
	}
	return api.Entry{Kind: h.Obj.Kind, Data: h.Obj.Data}
}

// tips are some of a fork's, and seldom other names.
func (p *script) tips(name string) []string {
	var l []string
	own := refs.Tips(p.refs(name))
	for range 1 + p.r.Intn(3) {
		switch {
		case len(own) == 0 || p.r.Intn(15) == 0:
			l = append(l, p.object())
		default:
			l = append(l, own[p.r.Intn(len(own))])
		}
	}
	return l[p.r.Intn(8)/7:]
}

// touch does something to both shelves beside the nets. These are opened once more behind a crash.
func (p *script) touch(t *testing.T) {
	path := p.one("own/x", "pool/y", "net/root.new", "net/other", "other/own")
	fuse := p.r.Intn(40) - 5
	var keep []bool
	for range p.mine.Loose() {
		keep = append(keep, p.r.Intn(2) > 0)
	}
	k := p.r.Intn(10)
	for _, s := range []*shelf.Shelf{p.mine, p.other} {
		switch {
		case k < 3:
			s.Write(path, []byte("x"))
		case k < 6:
			s.Fuse(fuse)
		case k < 9 && !s.Down():
		default:
			s.Crash(keep)
		}
	}
	if p.mine.Down() || k < 6 {
		return
	}
	was := p.n.Root()
	fuse = p.r.Intn(16)
	p.mine.Fuse(fuse)
	p.other.Fuse(fuse)
	for p.open(t); p.n == nil; p.open(t) {
		p.mine.Crash(keep)
		p.other.Crash(keep)
	}
	p.mine.Fuse(-1)
	p.other.Fuse(-1)
	// P14.2
	now := p.n.Root()
	if lines(now) != lines(was) && (now.Count != was.Count+1 || !p.cut) || !slices.Equal(files(now), inNet(p.mine)) {
		t.Fatal("another root", now.Count, was.Count, paths(p.mine))
	}
	p.cut = false
}

// inNet are the paths of a shelf's files, but for those in directories that are not a net's, and the one beside the root that nobody wrote.
func inNet(s *shelf.Shelf) []string {
	return slices.DeleteFunc(paths(s), func(path string) bool { return path == "other/own" || path == "net/other" })
}

// helds are what forks have, by their names.
func (p *script) helds(t *testing.T) map[string][]api.Held {
	t.Helper()
	all := map[string][]api.Held{}
	for _, f := range p.n.Root().Forks {
		l, e := p.n.Held(f.Name)
		want, _ := p.w.held(f.Name)
		if e != api.OK || !slices.Equal(l, want) {
			t.Fatal(f.Name, e)
		}
		all[f.Name] = l
	}
	return all
}

// kept checks that forks have all that their refs come to, as it was pushed (P14.4).
func (p *script) kept(t *testing.T) {
	t.Helper()
	for _, f := range p.n.Root().Forks {
		l, _ := p.n.Held(f.Name)
		come, lacking := walk.Closure(p.all, refs.Tips(f.Refs))
		if len(lacking) > 0 || !slices.Equal(l, walk.Pick(p.all, come)) {
			t.Fatal(f.Name, "has not what was pushed")
		}
	}
}

// packed checks the pool that was packed anew: its entries stand on no more than four others, and on nothing that not all linked forks have that come to them (T5); pruned, it has what these have, and these have no packs (P14.5).
func (p *script) packed(t *testing.T, what string) {
	t.Helper()
	var all []api.Held
	r := p.n.Root()
	for _, f := range r.Forks {
		if f.Linked {
			l, _ := p.n.Held(f.Name)
			all = walk.Join(all, l)
		}
		if what == "prune" && f.Linked && len(f.Packs) > 0 {
			t.Fatal(f.Name, "has packs")
		}
	}
	if what == "prune" && !slices.Equal(p.n.Pool(), all) || len(r.Pool) > 1 || (len(r.Pool) == 0) != (len(p.n.Pool()) == 0) {
		t.Fatal("the pool has something else")
	}
	if p.mine.Down() {
		return
	}
	for _, name := range r.Pool {
		p.islands(t, entriesOf(t, p.mine, "pool", name))
	}
}

func (p *script) islands(t *testing.T, l []api.Entry) {
	t.Helper()
	objs, _ := pack.Resolve(l, nil)
	deep, _ := pack.Deep(l, nil)
	for i, x := range l {
		if x.Kind != api.Back {
			p.met["whole "]++
			continue
		}
		p.met["delta "]++
		for name, held := range p.helds(t) {
			if fork(t, p.n, name).Linked && contains(held, id(objs[i])) && !contains(held, id(objs[i-x.Back])) {
				t.Fatal("stands on what is not of", name)
			}
		}
		if deep[i] > 4 {
			t.Fatal(deep[i])
		}
	}
}

// P14.1 to P14.5, T5: scripts by chance, against the twin.
func TestScripts(t *testing.T) {
	met := map[string]int{}
	for seed := range int64(120) {
		p := start(t, seed, met)
		for range 120 {
			p.step(t)
		}
	}
	for _, c := range []struct {
		what string
		nos  []api.Errno
	}{
		{"create", []api.Errno{api.OK, api.ErrArg, api.ErrThere, api.ErrNone, api.ErrDown, api.ErrFull}},
		{"delete", []api.Errno{api.OK, api.ErrNone, api.ErrDown}},
		{"detach", []api.Errno{api.OK, api.ErrNone, api.ErrArg, api.ErrDown}},
		{"feed", []api.Errno{api.OK, api.ErrNone, api.ErrArg, api.ErrDown, api.ErrFull}},
		{"repack", []api.Errno{api.OK, api.ErrNone, api.ErrDown, api.ErrFull}},
		{"prune", []api.Errno{api.OK, api.ErrDown, api.ErrFull}},
		{"push", []api.Errno{api.OK, api.ErrNone, api.ErrArg, api.ErrStale, api.ErrThere, api.ErrCorrupt, api.ErrLack, api.ErrDown, api.ErrFull}},
		{"fetch", []api.Errno{api.OK, api.ErrNone, api.ErrArg}},
		{"open", []api.Errno{api.OK, api.ErrDown}},
	} {
		for _, e := range c.nos {
			if met[c.what+" "+e.Error()] < 10 {
				t.Error("too few of", c.what, e)
			}
		}
	}
	if met["delta "] < 100 || met["whole "] < 100 {
		t.Error("too few deltas", met)
	}
}
