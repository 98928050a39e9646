package depot_test

import (
	"math/rand"
	"slices"
	"strings"
	"testing"

	"sacristy/api"
	"sacristy/depot"
	"sacristy/pack"
	"sacristy/shelf"
	"sacristy/walk"
)

var texts = strings.Fields("a b c d e abcdef xabcdef abcdefabcdef")

// someEntries are few, of few texts, so that packs come again, and have objects in common; now and then they are wrong.
func someEntries(r *rand.Rand) []api.Entry {
	var l []api.Entry
	at := r.Perm(len(texts))
	n := r.Intn(4)
	for i := range n {
		text := texts[at[i]]
		switch k := r.Intn(20); {
		case k < 5 && i > 0:
			l = append(l, back(1, texts[at[i-1]], text))
		case k < 8:
			l = append(l, on(texts[at[r.Intn(n)]], text))
		case k == 8:
			l = append(l, blob(texts[at[0]]))
		case k == 9:
			l = append(l, api.Entry{Kind: r.Intn(9), Data: text})
		default:
			l = append(l, blob(text))
		}
	}
	return l
}

// script is two shelves on which the same is done, by depot and by its twin, and the names that were met on the way.
type script struct {
	r          *rand.Rand
	mine, twin *shelf.Shelf
	names      []string
	met        map[string]int
}

func (p *script) dir() string {
	return []string{"own", "own", "own", "pool", "own1", "No", ""}[p.r.Intn(7)]
}

func (p *script) name() string {
	if len(p.names) > 0 && p.r.Intn(12) > 0 {
		return p.names[p.r.Intn(len(p.names))]
	}
	return []string{"", "x", nameOf(nil)}[p.r.Intn(3)]
}

func (p *script) someNames() []string {
	var l []string
	for range p.r.Intn(5) {
		l = append(l, p.name())
	}
	return l
}

func (p *script) step(t *testing.T) {
	t.Helper()
	dir := p.dir()
	switch k := p.r.Intn(40); {
	case k < 14:
		p.save(t, dir)
	case k < 22:
		name := p.name()
		l, e := depot.Load(p.mine, dir, name)
		want, no := twinLoad(p.twin, dir, name)
		p.check(t, "load", e, no, slices.Equal(l, want))
	case k < 27:
		names := p.someNames()
		l, e := depot.All(p.mine, dir, names)
		want, no := twinAll(p.twin, dir, names)
		p.check(t, "all", e, no, slices.Equal(l, want))
	case k < 30:
		p.sweep(t, dir)
	default:
		p.touch(dir)
	}
}

// save saves, and loads what was (P13.2), and saves once more (P13.3).
func (p *script) save(t *testing.T, dir string) {
	t.Helper()
	l := someEntries(p.r)
	name, e := depot.Save(p.mine, dir, l)
	want, no := twinSave(p.twin, dir, l)
	p.check(t, "save", e, no, name == want)
	if e != api.OK {
		return
	}
	p.names = append(p.names, name)
	objs, _ := pack.Resolve(l, nil)
	held, e := depot.Load(p.mine, dir, name)
	if e != api.OK || !slices.Equal(held, walk.Set(objs)) || len(held) != len(l) {
		t.Fatal(l, held, e)
	}
	ahead := state(p.mine)
	if again, e := depot.Save(p.mine, dir, l); again != name || e != api.OK || state(p.mine) != ahead {
		t.Fatal(l, again, e)
	}
}

// sweep sweeps: there is nothing then but what was named, and that is there (P13.4).
func (p *script) sweep(t *testing.T, dir string) {
	t.Helper()
	names := p.someNames()
	ahead := p.mine.Files()
	e := depot.Sweep(p.mine, dir, names)
	p.check(t, "sweep", e, twinSweep(p.twin, dir, names), true)
	if e != api.OK {
		return
	}
	is := func(f api.File) bool {
		in, file, _ := strings.Cut(f.Path, "/")
		return in != dir || slices.Contains(names, strings.TrimSuffix(file, ".pack")) || slices.Contains(names, strings.TrimSuffix(file, ".idx"))
	}
	for _, f := range p.mine.Files() {
		if !is(f) {
			t.Fatal(dir, names, f.Path)
		}
	}
	for _, f := range ahead {
		if b, e := p.mine.Read(f.Path); is(f) && (e != api.OK || string(b) != string(f.Data)) {
			t.Fatal(dir, names, f.Path, e)
		}
	}
}

// touch does something to both shelves beside depot.
func (p *script) touch(dir string) {
	file := []string{p.name() + ".pack", p.name() + ".idx", "z", ".pack"}[p.r.Intn(4)]
	b := []byte(strings.Repeat("x", p.r.Intn(2)))
	fuse := p.r.Intn(30) - 8
	keep := []bool{}
	for range p.mine.Loose() {
		keep = append(keep, p.r.Intn(3) > 0)
	}
	k := p.r.Intn(8)
	for _, s := range []*shelf.Shelf{p.mine, p.twin} {
		switch k {
		case 0, 1:
			s.Write(dir+"/"+file, b)
		case 2:
			s.Remove(dir + "/" + file)
		case 3, 4:
			s.Sync(dir)
		case 5:
			s.Fuse(fuse)
		default:
			if s.Down() || k == 7 {
				s.Crash(keep)
			}
		}
	}
}

func (p *script) check(t *testing.T, what string, e, want api.Errno, same bool) {
	t.Helper()
	if e != want || !same || state(p.mine) != state(p.twin) {
		t.Fatalf("%s: %v, not %v, or something else:\n%s\n%s", what, e, want, state(p.mine), state(p.twin))
	}
	p.met[what+" "+e.Error()]++
}

// P13.1 to P13.4: scripts by chance, against the twin.
func TestScripts(t *testing.T) {
	met := map[string]int{}
	for seed := range 400 {
		r := rand.New(rand.NewSource(int64(seed)))
		room := []int{1 << 20, 3000}[r.Intn(2)]
		p := &script{r, shelf.New(room), shelf.New(room), nil, met}
		for range 100 {
			p.step(t)
		}
	}
	for _, c := range []struct {
		what string
		nos  []api.Errno
	}{
		{"save", []api.Errno{api.OK, api.ErrArg, api.ErrCorrupt, api.ErrLack, api.ErrThere, api.ErrFull, api.ErrDown}},
		{"load", []api.Errno{api.OK, api.ErrArg, api.ErrCorrupt, api.ErrNone, api.ErrDown}},
		{"all", []api.Errno{api.OK, api.ErrArg, api.ErrCorrupt, api.ErrNone, api.ErrDown}},
		{"sweep", []api.Errno{api.OK, api.ErrDown}},
	} {
		for _, e := range c.nos {
			if met[c.what+" "+e.Error()] < 50 {
				t.Error("too few of", c.what, e, met)
			}
		}
	}
}
