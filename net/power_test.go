package net_test

import (
	"math/rand"
	"slices"
	"strings"
	"testing"

	"sacristy/api"
	"sacristy/net"
	"sacristy/shelf"
)

// doer is a net, or its twin.
type doer interface {
	create(name, from string) api.Errno
	delete(name string) api.Errno
	detach(name string) api.Errno
	feed(name string) api.Errno
	repack(name string) api.Errno
	prune() api.Errno
	push(name string, u []api.Update, b []byte) (api.Errno, int)
}

type real struct{ *net.Net }

func (n real) create(name, from string) api.Errno { return n.Create(name, from) }
func (n real) delete(name string) api.Errno       { return n.Delete(name) }
func (n real) detach(name string) api.Errno       { return n.Detach(name) }
func (n real) feed(name string) api.Errno         { return n.Feed(name) }
func (n real) repack(name string) api.Errno       { return n.Repack(name) }
func (n real) prune() api.Errno                   { return n.Prune() }
func (n real) push(name string, u []api.Update, b []byte) (api.Errno, int) {
	return n.Push(name, u, b)
}

var (
	one   = blob("this is a text of some length, the first one")
	two   = blob("this is a text of some length, the second one")
	three = blob("this is a text of some length, the third one")
	four  = blob("this is a text of some length, the fourth one")
	gone  = blob("nobody has this any more")
	both  = tree(one, two)
	base  = commit(both, "both")
	more  = commit(tree(one, two, three), "more", base)
)

// village is a net of some forks: a has two commits, of which the pool has one; b has that, and something of its own, and something that it has no more; c is alone.
func village(t *testing.T) (*shelf.Shelf, *net.Net) {
	t.Helper()
	s, n := fresh(t)
	ok(t, n.Create("a", ""))
	push(t, n, "a", updates(to("heads/main", base)), of(one, two, both, base))
	ok(t, n.Create("b", "a"))
	ok(t, n.Create("c", "b"))
	ok(t, n.Detach("c"))
	push(t, n, "a", updates(move("heads/main", base, more)), of(three, tree(one, two, three), more))
	push(t, n, "b", updates(to("tags/gone", gone)), of(gone))
	push(t, n, "b", updates(to("tags/four", four), from("tags/gone", gone)), of(four))
	return s, n
}

// changes are of each kind, with and without a pack, in the village.
func changes() []func(x doer) api.Errno {
	five := blob("five")
	return []func(x doer) api.Errno{
		func(x doer) api.Errno { return x.create("d", "") },
		func(x doer) api.Errno { return x.create("d", "b") },
		func(x doer) api.Errno { return x.create("d", "c") },
		func(x doer) api.Errno { return x.delete("a") },
		func(x doer) api.Errno { return x.delete("c") },
		func(x doer) api.Errno { return x.detach("b") },
		func(x doer) api.Errno { return x.feed("a") },
		func(x doer) api.Errno { return x.repack("b") },
		func(x doer) api.Errno { return x.repack("c") },
		func(x doer) api.Errno { return x.repack("") },
		func(x doer) api.Errno { return x.prune() },
		func(x doer) api.Errno {
			e, _ := x.push("b", updates(to("tags/five", five), from("tags/four", four)), of(five))
			return e
		},
		func(x doer) api.Errno {
			e, _ := x.push("c", updates(to("heads/five", base)), nil)
			return e
		},
	}
}

// keeps are rows of what a crash keeps of so many loose acts.
func keeps(r *rand.Rand, loose int) [][]bool {
	if loose == 0 {
		return [][]bool{nil}
	}
	all := slices.Repeat([]bool{true}, loose)
	l := [][]bool{nil, all, all[1:], all[:loose-1]}
	for range 4 {
		keep := make([]bool, loose)
		for i := range keep {
			keep[i] = r.Intn(2) > 0
		}
		l = append(l, keep)
	}
	return l
}

// P14.2: wherever the power goes, and whatever is kept.
func TestPower(t *testing.T) {
	r := rand.New(rand.NewSource(1))
	s, n := village(t)
	was := whole(t, n)
	for i, change := range changes() {
		after := clone(s)
		then := open(t, after)
		ok(t, change(real{then}))
		will := whole(t, then)
		for fuse := 0; ; fuse++ {
			mine := clone(s)
			m := open(t, mine)
			other := clone(s)
			w, _ := twinOpen(other)
			mine.Fuse(fuse)
			other.Fuse(fuse)
			e, want := change(real{m}), change(w)
			if e != want || state(mine) != state(other) || lines(m.Root()) != lines(w.r) {
				t.Fatal(i, fuse, e, want)
			}
			if e == api.OK && whole(t, m) != will || e == api.ErrDown && whole(t, m) != was || e != api.OK && e != api.ErrDown {
				t.Fatal(i, fuse, e)
			}
			if !mine.Down() {
				break
			}
			for _, keep := range keeps(r, mine.Loose()) {
				again := clone(s)
				m := open(t, again)
				again.Fuse(fuse)
				change(real{m})
				again.Crash(keep)
				reopened(t, again, was, will, e == api.OK)
			}
		}
	}
}

// reopened checks a shelf on which something was under way; the power goes on the way to the net, too.
func reopened(t *testing.T, s *shelf.Shelf, was, will string, answered bool) {
	t.Helper()
	for fuse := 0; ; fuse++ {
		s.Fuse(fuse)
		n, e := net.Open(s)
		if e == api.ErrDown && n == nil && s.Down() {
			s.Crash([]bool{fuse%2 > 0, fuse%3 > 0})
			continue
		}
		s.Fuse(-1)
		ok(t, e)
		now := whole(t, n)
		if now != will && (answered || now != was) {
			t.Fatal("another net, answered:", answered, now)
		}
		if !slices.Equal(paths(s), files(n.Root())) || s.Loose() > 0 {
			t.Fatal("left behind:", paths(s), s.Loose())
		}
		return
	}
}

// P14.1, P14.2: where a shelf has no room, there is none of what was to be, and the net goes on.
func TestFull(t *testing.T) {
	r := rand.New(rand.NewSource(2))
	s, n := village(t)
	was := whole(t, n)
	used := s.Used()
	full := 0
	for i, change := range changes() {
		refused := 0
		for size := used; ; size += 70 {
			mine, other := shelf.Of(size, s.Files()), shelf.Of(size, s.Files())
			m := open(t, mine)
			w, _ := twinOpen(other)
			e, want := change(real{m}), change(w)
			if e != want || state(mine) != state(other) || lines(m.Root()) != lines(w.r) {
				t.Fatal(i, size, e, want)
			}
			if e == api.OK {
				break
			}
			if e != api.ErrFull || whole(t, m) != was || !slices.Equal(paths(mine), files(m.Root())) {
				t.Fatal(i, size, e, paths(mine))
			}
			refused++
			for _, keep := range keeps(r, mine.Loose()) {
				mine.Crash(keep)
				reopened(t, mine, was, was, true)
			}
			// What is refused here is not elsewhere, and the other way round.
			if e, _ := m.Push("b", updates(from("tags/four", four)), nil); e != api.OK && e != api.ErrFull {
				t.Fatal(i, e)
			}
		}
		full += refused
	}
	if full < 50 {
		t.Error("too few were refused:", full)
	}
}

// P14.1: where there are no files more, the pack's first or second one, or the root's, is one too many.
func TestFiles(t *testing.T) {
	s, n := village(t)
	was := whole(t, n)
	for i, change := range changes() {
		met := map[api.Errno]int{}
		for free := range 5 {
			var l []api.File
			for k := range api.MaxFiles - len(s.Files()) - free {
				l = append(l, api.File{Path: "z/" + string([]byte{'a' + byte(k/26), 'a' + byte(k%26)})})
			}
			l = append(l, s.Files()...)
			mine, other := shelf.Of(room, l), shelf.Of(room, l)
			m := open(t, mine)
			w, _ := twinOpen(other)
			e, want := change(real{m}), change(w)
			if e != want || state(mine) != state(other) || lines(m.Root()) != lines(w.r) || e != api.OK && (e != api.ErrTooMany || whole(t, m) != was || mine.Down()) {
				t.Fatal(i, free, e, want)
			}
			met[e]++
		}
		if met[api.OK] < 2 || met[api.ErrTooMany] < 1 {
			t.Error(i, met)
		}
	}
}

// P14.1: a change that is refused has all that lies about be gone, up to where the power goes in that.
func TestRefusedFuse(t *testing.T) {
	s, n := village(t)
	was := whole(t, n)
	size := s.Used() + 40
	for i, change := range changes() {
		for fuse := 0; ; fuse++ {
			mine, other := shelf.Of(size, s.Files()), shelf.Of(size, s.Files())
			m := open(t, mine)
			w, _ := twinOpen(other)
			for _, x := range []*shelf.Shelf{mine, other} {
				for _, path := range strings.Fields("own/x own/y pool/x pool/y net/root.new") {
					x.Write(path, []byte("12345678"))
				}
				x.Fuse(fuse)
			}
			e, want := change(real{m}), change(w)
			if e != want || e != api.ErrFull && e != api.ErrDown || state(mine) != state(other) || whole(t, m) != was {
				t.Fatal(i, fuse, e, want)
			}
			if !mine.Down() {
				break
			}
			mine.Crash(nil)
			reopened(t, mine, was, was, true)
		}
	}
}
