package root_test

import (
	"fmt"
	"math"
	"math/rand"
	"reflect"
	"slices"
	"strings"
	"sync"
	"testing"

	"sacristy/api"
	"sacristy/digest"
	"sacristy/root"
)

// id is a name of an object, by a digit.
func id(c byte) string { return strings.Repeat(string(c), 64) }

// ids are n names, of which no two are one.
func ids(n int) []string {
	var l []string
	for i := range n {
		l = append(l, digest.Name(fmt.Append(nil, i)))
	}
	return l
}

// many are n refs, rising.
func many(n int) []api.Ref {
	var l []api.Ref
	for i := range n {
		l = append(l, api.Ref{Name: fmt.Sprintf("heads/n%03d", i), Id: digest.Name([]byte{byte(i / 2)})})
	}
	return l
}

// forks are n forks, rising, each with refs and packs.
func forks(n int, refCount int, packCount int) []api.Fork {
	var l []api.Fork
	for i := range n {
		l = append(l, api.Fork{Name: fmt.Sprintf("f%04d", i), Linked: i%2 == 0, Head: "heads/main", Refs: many(refCount), Packs: ids(packCount)})
	}
	return l
}

// plain is a root with something of everything.
func plain() api.Root {
	return api.Root{Count: 307, Pool: []string{id('b'), id('a')}, Forks: []api.Fork{
		{Name: "0-x", Linked: true, Head: "heads/m", Refs: []api.Ref{{Name: "heads/a", Id: id('1')}, {Name: "tags/v/1", Id: id('2')}}, Packs: []string{id('a')}},
		{Name: "b", Head: "heads/b/c"},
		{Name: "c", Head: "heads/m", Packs: []string{id('a'), id('c')}},
	}}
}

// same tells whether two roots are one, whether an empty list is nil or not.
func same(a, b api.Root) bool { return fmt.Sprintf("%+v", a) == fmt.Sprintf("%+v", b) }

// checkRoot holds Right, and both ways, against the twin.
func checkRoot(t *testing.T, r api.Root) bool {
	t.Helper()
	b, is := root.Put(r)
	want, right := twinPut(r)
	if root.Right(r) != right || is != right || string(b) != want {
		t.Fatalf("%.500v: %v %.500q %v", r, root.Right(r), b, is)
	}
	if got, back := root.Get(b); is && (!back || !same(got, r)) {
		t.Fatalf("%.500v: %v %v", r, got, back)
	}
	return is
}

// checkGet holds Get against the twin.
func checkGet(t *testing.T, s string) bool {
	t.Helper()
	got, is := root.Get([]byte(s))
	want, right := twinGet(s)
	if is != right || !same(got, want) {
		t.Fatalf("%.500q: %v %v", s, got, is)
	}
	if !is && !reflect.ValueOf(got).IsZero() {
		t.Fatalf("%.500q: %v", s, got)
	}
	if again, put := root.Put(got); is && (!put || string(again) != s) {
		t.Fatalf("%.500q: %.500q", s, again)
	}
	return is
}

// noIds are texts that are no names of objects.
func noIds() []string {
	zero := id('0')
	return []string{"", " ", "0", "-", zero[1:], zero + "0", zero + zero, zero[1:] + "A", zero[1:] + "g", "/" + zero[1:], ":" + zero[1:], "`" + zero[1:],
		zero[1:] + "\x00", "\xff" + zero[1:], zero[2:] + "é", id('F'), zero[1:] + "\n", " " + zero[1:], zero + "\n", zero + "\n" + zero, strings.Repeat("0", 1<<16)}
}

// P10.1, J1: Named.
func TestNamed(t *testing.T) {
	for n := range 300 {
		for _, c := range []string{"a", "z", "0", "9", "-"} {
			if root.Named(strings.Repeat(c, n)) != (1 <= n && n <= 20) {
				t.Error(c, n)
			}
		}
	}
	const may = "abcdefghijklmnopqrstuvwxyz0123456789-"
	for c := range 256 {
		s := string([]byte{byte(c)})
		is := strings.Contains(may, s)
		for _, name := range []string{s, "a" + s, s + "a", "a" + s + "a", strings.Repeat("x", 19) + s, s + strings.Repeat("x", 19), strings.Repeat(s, 20)} {
			if root.Named(name) != is {
				t.Errorf("%q", name)
			}
		}
	}
	for name, want := range map[string]bool{
		"x-1": true, "--": true, "linked": true, "fork": true, "0": true, "main-of-1": true,
		"A": false, "a.b": false, "a_b": false, "a/b": false, "é": false, "aé": false, "ａ": false, "a\n": false, "a\x00": false, "a b": false, " ": false,
	} {
		if root.Named(name) != want {
			t.Errorf("%q", name)
		}
	}
	if root.Named(strings.Repeat("x", 1<<20)) {
		t.Error("a long one")
	}
}

// P10.1, J1: Right, and what Put answers: how many there may be of all.
func TestRightCounts(t *testing.T) {
	for n, want := range map[int]bool{
		-1: false, 0: true, 1: true, 9: true, 1<<40 - 1: true, 1 << 40: true, 1<<40 + 1: false, 1 << 41: false, math.MaxInt: false, math.MinInt: false,
	} {
		if checkRoot(t, api.Root{Count: n}) != want {
			t.Error(n)
		}
	}
	for n := range 30 {
		if checkRoot(t, api.Root{Pool: ids(n)}) != (n <= 24) {
			t.Error(n)
		}
		if checkRoot(t, api.Root{Forks: forks(n, 0, 0)}) != (n <= 16) {
			t.Error(n)
		}
		if checkRoot(t, api.Root{Forks: forks(2, 1, n)}) != (n <= 24) {
			t.Error(n)
		}
	}
	for n := range 70 {
		if checkRoot(t, api.Root{Forks: forks(2, n, 1)}) != (n <= 64) {
			t.Error(n)
		}
	}
	for i, r := range []api.Root{
		{Pool: ids(1000)}, {Pool: slices.Repeat(ids(1), 100000)}, {Forks: forks(1000, 0, 0)}, {Forks: make([]api.Fork, 100000)}, {Forks: forks(1, 1000, 0)}, {Forks: forks(1, 0, 1000)},
	} {
		if checkRoot(t, r) {
			t.Error(i)
		}
	}
}

// P10.1, P10.2: all that there may be, by the longest names.
func TestMost(t *testing.T) {
	part := strings.Repeat("x", 30)
	r := api.Root{Count: 1 << 40, Pool: ids(24)}
	for i := range 16 {
		f := api.Fork{Name: fmt.Sprintf("%020d", i), Linked: i > 7, Head: "heads/" + part + "/" + part + "/" + part[:12], Packs: ids(24)}
		for n := range 64 {
			f.Refs = append(f.Refs, api.Ref{Name: fmt.Sprintf("heads/%02d/%s/%s", n, part, part), Id: id('f')})
		}
		r.Forks = append(r.Forks, f)
	}
	if !checkRoot(t, r) {
		t.Fatal("it is right")
	}
	b, _ := root.Put(r)
	if !checkGet(t, string(b)) || checkGet(t, string(b)+"\n") || checkGet(t, string(b[:len(b)-1])) {
		t.Error("its lines are others")
	}
}

// P10.1, J1: packs, of the pool and of a fork: names in any order, no two of them one.
func TestRightPacks(t *testing.T) {
	check := func(l []string, want bool) {
		t.Helper()
		before, behind := api.Fork{Name: "a", Head: "heads/m"}, api.Fork{Name: "c", Head: "heads/m"}
		has := api.Fork{Name: "b", Head: "heads/m", Packs: l}
		for _, r := range []api.Root{{Pool: l}, {Forks: []api.Fork{has}}, {Pool: l, Forks: []api.Fork{has}}, {Forks: []api.Fork{before, has, behind}}} {
			if checkRoot(t, r) != want {
				t.Fatalf("%.300q", l)
			}
		}
	}
	a, b, c := id('a'), id('b'), id('c')
	check(nil, true)
	check([]string{}, true)
	check([]string{a}, true)
	check([]string{a, b, c}, true)
	check([]string{c, b, a}, true)
	check([]string{b, c, a}, true)
	check([]string{a, a}, false)
	check([]string{a, b, a}, false)
	check([]string{c, a, b, a}, false)
	check([]string{b, a, c, c}, false)
	for _, one := range noIds() {
		check([]string{one}, false)
		check([]string{one, a}, false)
		check([]string{a, one, b}, false)
		check([]string{b, a, one}, false)
	}
	all := ids(24)
	for i := range all {
		twice := slices.Clone(all)
		twice[i] = all[(i+7)%24]
		check(twice, false)
		turned := append(slices.Clone(all[i:]), all[:i]...)
		check(turned, true)
	}
	// The pool, and other forks, may have the same ones.
	if !checkRoot(t, api.Root{Pool: all, Forks: forks(3, 0, 24)}) {
		t.Error("each list is by itself")
	}
}

// P10.1, J1: forks' names, their order, and heads.
func TestRightForks(t *testing.T) {
	for _, c := range []struct {
		names string
		want  bool
	}{
		{"a", true}, {"a b", true}, {"- -- -a 0 00 1 10 2 a a- a0 aa b", true},
		{"b a", false}, {"a a", false}, {"a b b", false}, {"a b a", false}, {"a c b", false}, {"b c a", false}, {"c a b", false},
		{"a 0", false}, {"0 -", false}, {"aa a", false}, {"2 10", false}, {"A b", false}, {"a B", false}, {"a b_", false}, {"a b.c", false},
		{"a " + strings.Repeat("b", 20), true}, {"a " + strings.Repeat("b", 21), false}, {strings.Repeat("a", 21) + " b", false},
	} {
		var r api.Root
		for _, name := range strings.Fields(c.names) {
			r.Forks = append(r.Forks, api.Fork{Name: name, Head: "heads/m"})
		}
		if checkRoot(t, r) != c.want {
			t.Error(c.names)
		}
	}
	for _, name := range []string{"", " ", "a b", "b\n", "b\x00", "é", "a/b", "b\nfork c"} {
		for at := range 3 {
			r := api.Root{Forks: forks(3, 1, 1)}
			r.Forks[at].Name = name
			if checkRoot(t, r) || checkRoot(t, api.Root{Forks: r.Forks[at : at+1]}) {
				t.Errorf("%q", name)
			}
			slices.SortFunc(r.Forks, func(a, b api.Fork) int { return strings.Compare(a.Name, b.Name) })
			if checkRoot(t, r) {
				t.Errorf("%q", name)
			}
		}
	}
	part := strings.Repeat("x", 30)
	for head, want := range map[string]bool{
		"heads/m": true, "heads/a/b/c": true, "heads/heads": true, "heads/tags": true, "heads/-": true, "heads/" + part + "/" + part + "/" + part[:12]: true,
		"": false, "heads": false, "heads/": false, "/heads/m": false, "m": false, "tags/m": false, "tags/heads/m": false, "tags/heads": false, "Heads/m": false, "headsx/m": false,
		"heads/.m": false, "heads/a/b/c/d": false, "heads//m": false, "heads/m/": false, "heads/m ": false, " heads/m": false, "heads/m\n": false, "heads/m 0 0\n": false,
		"heads/M": false, "heads/" + part + "x": false, "heads/" + part + "/" + part + "/" + part[:13]: false, "heads/" + strings.Repeat("x", 1<<16): false,
	} {
		for at := range 3 {
			r := api.Root{Forks: forks(3, 1, 1)}
			r.Forks[at].Head = head
			if checkRoot(t, r) != want {
				t.Errorf("%.200q", head)
			}
		}
	}
}

// P10.1, J1: refs of a fork are right, or the root is not.
func TestRightRefs(t *testing.T) {
	for _, c := range []struct {
		names string
		want  bool
	}{
		{"", true}, {"heads/a", true}, {"heads/a heads/b tags/a", true}, {"tags/heads/a", true}, {"heads/a/b heads/ab", true},
		{"heads/b heads/a", false}, {"tags/a heads/a", false}, {"heads/a heads/a", false}, {"heads/a heads/b heads/a", false}, {"heads/a heads/a/b", false},
		{"heads/a heads/a-b heads/a/b", false}, {"heads", false}, {"x/a", false}, {"heads/A", false}, {"heads/a heads/b heads/.c", false},
	} {
		for at := range 3 {
			r := api.Root{Forks: forks(3, 1, 1)}
			r.Forks[at].Refs = nil
			for _, name := range strings.Fields(c.names) {
				r.Forks[at].Refs = append(r.Forks[at].Refs, api.Ref{Name: name, Id: id('7')})
			}
			if checkRoot(t, r) != c.want {
				t.Error(c.names)
			}
		}
	}
	for _, one := range noIds() {
		for at := range 3 {
			r := api.Root{Forks: forks(2, 3, 1)}
			r.Forks[1].Refs[at].Id = one
			if checkRoot(t, r) {
				t.Errorf("%.100q", one)
			}
		}
	}
}

// P10.1: lines that are known.
func TestPut(t *testing.T) {
	a := id('a')
	for want, r := range map[string]api.Root{
		"net 0\npool 0\nforks 0\n":                              {},
		"net 1099511627776\npool 0\nforks 0\n":                  {Count: 1 << 40, Pool: []string{}, Forks: []api.Fork{}},
		"net 12\npool 2\n" + id('b') + "\n" + a + "\nforks 0\n": {Count: 12, Pool: []string{id('b'), a}},
		"net 0\npool 0\nforks 1\nfork a alone heads/b/c 0 0\n":  {Forks: []api.Fork{{Name: "a", Head: "heads/b/c"}}},
		"net 0\npool 0\nforks 1\nfork linked linked heads/linked 1 2\n" + a + " tags/t\n" + id('b') + "\n" + a + "\n": {Forks: []api.Fork{{Name: "linked", Linked: true, Head: "heads/linked", Refs: []api.Ref{{Name: "tags/t", Id: a}}, Packs: []string{id('b'), a}}}},
	} {
		b, is := root.Put(r)
		if !is || string(b) != want || !checkRoot(t, r) || !checkGet(t, want) {
			t.Errorf("%q %v", b, is)
		}
	}
	if !checkRoot(t, plain()) {
		t.Error("it is right")
	}
}

// P10.1, J1: Find, right or not.
func TestFind(t *testing.T) {
	r := api.Root{Count: -1, Forks: []api.Fork{{Name: "b"}, {Name: "a"}, {Name: "b", Linked: true}, {Name: ""}, {Name: "X y"}}}
	for name, want := range map[string]int{"b": 0, "a": 1, "": 3, "X y": 4, "c": -1, "B": -1, "a ": -1, "ab": -1, "X": -1} {
		if root.Find(r, name) != want {
			t.Errorf("%q", name)
		}
	}
	for _, name := range []string{"", "a"} {
		if root.Find(api.Root{}, name) != -1 {
			t.Errorf("%q", name)
		}
	}
	all := api.Root{Forks: forks(16, 0, 0)}
	for i, f := range all.Forks {
		if root.Find(all, f.Name) != i {
			t.Error(i)
		}
	}
}

// P10.1, P10.2: texts that are no root's lines.
func TestGetOdd(t *testing.T) {
	a, b := id('a'), id('b')
	head, fork := "net 0\npool 0\nforks ", "net 0\npool 0\nforks 1\nfork "
	for i, s := range []string{
		"", "\n", "\n\n\n", "x", "net", "net 0", "net 0\n", "net 0\npool 0\n", "net 0\npool 0\nforks 0", "net 0\npool 0\nforks 0\n\n", "\nnet 0\npool 0\nforks 0\n",
		"net 0\npool 0\nforks 0\nx", "net 0\npool 0\nforks 0\n\x00", "net 0\npool 0\nforks 0\nnet 0\npool 0\nforks 0\n", "net 0\r\npool 0\r\nforks 0\r\n",
		"net 00\npool 0\nforks 0\n", "net -0\npool 0\nforks 0\n", "net +0\npool 0\nforks 0\n", "net 01\npool 0\nforks 0\n", "net -1\npool 0\nforks 0\n", "net\npool 0\nforks 0\n",
		"net \npool 0\nforks 0\n", "net  0\npool 0\nforks 0\n", "net 0 \npool 0\nforks 0\n", "net 0x0\npool 0\nforks 0\n", "net 1_0\npool 0\nforks 0\n", "net 1e1\npool 0\nforks 0\n",
		"net 1099511627777\npool 0\nforks 0\n", "net 18446744073709551616\npool 0\nforks 0\n", "net ٣\npool 0\nforks 0\n", "Net 0\npool 0\nforks 0\n", "net0\npool 0\nforks 0\n",
		"pool 0\nnet 0\nforks 0\n", "pool 0\nforks 0\n", "net 0\nforks 0\n", "net 0\nforks 0\npool 0\n", "net 0\npool0\nforks 0\n", "net 0\npool 0\nfork 0\n", "net 0\npool 0\nforks0\n",
		"net 0\npool 00\nforks 0\n", "net 0\npool 0\nforks 00\n", "net 0\npool 1\nforks 0\n", "net 0\npool -1\nforks 0\n", "net 0\npool 0\n" + a + "\nforks 0\n",
		"net 0\npool 1\n" + a + "\n", "net 0\npool 1\n" + a + "\n" + b + "\nforks 0\n", "net 0\npool 2\n" + a + "\nforks 0\n", "net 0\npool 2\n" + a + "\n" + a + "\nforks 0\n",
		"net 0\npool 1\n" + a + "forks 0\n", "net 0\npool 2\n" + a + b + "\nforks 0\n", "net 0\npool 2\n" + a + " " + b + "\nforks 0\n", "net 0\npool 1\n" + id('A') + "\nforks 0\n",
		"net 0\npool 1\n" + a + " \nforks 0\n", "net 0\npool 1\n\nforks 0\n", "net 0\npool 1099511627776\nforks 0\n", "net 0\npool 0\nforks 1099511627776\n",
		head + "1\n", head + "2\nfork a alone heads/m 0 0\n", head + "0\nfork a alone heads/m 0 0\n", head + "2\nfork a alone heads/m 0 0\nfork a alone heads/m 0 0\n",
		head + "2\nfork b alone heads/m 0 0\nfork a alone heads/m 0 0\n", head + "1\nfork a alone heads/m 0 0\nfork b alone heads/m 0 0\n",
		fork + "a open heads/m 0 0\n", fork + "a Linked heads/m 0 0\n", fork + "a  heads/m 0 0\n", fork + "a heads/m 0 0\n", fork + "a true heads/m 0 0\n", fork + "a linked\n",
		fork + "a linked heads/m 0\n", fork + "a linked heads/m\n", fork + "a linked heads/m 0 0 0\n", fork + "a linked heads/m 0 0 \n", fork + "a linked heads/m 0  0\n", fork + "a linked  heads/m 0 0\n",
		fork + " a linked heads/m 0 0\n", fork + " linked heads/m 0 0\n", fork + "a linked heads/m  0\n", fork + "a linked  0 0\n", fork + "a\tlinked\theads/m\t0\t0\n", fork + "a linked heads/m 0\t0\n",
		fork + "A linked heads/m 0 0\n", fork + "a linked tags/m 0 0\n", fork + "a linked heads 0 0\n", fork + "a linked heads/m 00 0\n", fork + "a linked heads/m 0 00\n", fork + "a linked heads/m -0 0\n",
		fork + "a linked heads/m 0 1\n", fork + "a linked heads/m 1 0\n", fork + "a linked heads/m 0 0\n" + a + "\n", fork + "a linked heads/m 0 0\n" + a + " heads/m\n",
		fork + "a linked heads/m 1 0\n" + a + "\n", fork + "a linked heads/m 0 1\n" + a + " heads/m\n", fork + "a linked heads/m 1 1\n" + a + "\n" + a + " heads/m\n",
		fork + "a linked heads/m 1 1\n" + a + " heads/m\n", fork + "a linked heads/m 1 1\n" + a + "\n", fork + "a linked heads/m 2 0\n" + a + " heads/m\n", fork + "a linked heads/m 1 0\n" + a + " heads/m\n" + a + " tags/m\n",
		fork + "a linked heads/m 2 0\n" + a + " tags/m\n" + a + " heads/m\n", fork + "a linked heads/m 2 0\n" + a + " heads/m\n" + a + " heads/m\n", fork + "a linked heads/m 2 0\n" + a + " heads/m\n" + a + " heads/m/n\n",
		fork + "a linked heads/m 1 0\n\n", fork + "a linked heads/m 1 0\n" + a + "  heads/m\n", fork + "a linked heads/m 1 0\n" + a + " heads/m \n", fork + "a linked heads/m 1 0\nheads/m " + a + "\n",
		fork + "a linked heads/m 0 2\n" + a + "\n" + a + "\n", fork + "a linked heads/m 65 0\n", fork + "a linked heads/m 0 25\n", fork + "a linked heads/m 1099511627776 0\n", fork + "a linked heads/m 0 1099511627776\n",
		strings.Repeat("\n", 1<<20), strings.Repeat(" ", 1<<20), strings.Repeat("net 0\n", 1<<18), fork + strings.Repeat(" ", 1<<20) + "\n", "net " + strings.Repeat("0", 1<<20), "net " + strings.Repeat("9", 1<<20) + "\n",
	} {
		if checkGet(t, s) {
			t.Errorf("%d: %.300q", i, s)
		}
	}
	if _, is := root.Get(nil); is {
		t.Error("nothing")
	}
}

// P10.2: how many there may be, though all lines are there.
func TestGetTooMany(t *testing.T) {
	lines := func(pool, forks, refs, packs int) string {
		s := fmt.Sprintf("net 0\npool %d\n%sforks %d\n", pool, strings.Join(append(ids(pool), ""), "\n"), forks)
		for i := range forks {
			s += fmt.Sprintf("fork f%04d linked heads/m %d %d\n", i, refs, packs)
			for _, r := range many(refs) {
				s += r.Id + " " + r.Name + "\n"
			}
			s += strings.Join(append(ids(packs), ""), "\n")
		}
		return s
	}
	for _, c := range []struct {
		s    string
		want bool
	}{
		{lines(24, 16, 64, 24), true},
		{lines(25, 16, 64, 24), false},
		{lines(24, 17, 64, 24), false},
		{lines(24, 16, 65, 24), false},
		{lines(24, 16, 64, 25), false},
		{lines(10000, 0, 0, 0), false},
		{lines(0, 10000, 0, 0), false},
	} {
		if checkGet(t, c.s) != c.want {
			t.Errorf("%.100q", c.s)
		}
	}
}

// P10.2: each byte changed, put in or left out.
func TestGetChanged(t *testing.T) {
	b, _ := root.Put(plain())
	s := string(b)
	right := 0
	for at := range len(s) + 1 {
		for _, c := range []string{"", "0", "1", "3", "9", "a", "z", "A", "/", ".", "-", "+", " ", "\n", "\r", "\x00", "\xff"} {
			if checkGet(t, s[:at]+c+s[at:]) {
				right++
			}
			if at < len(s) && checkGet(t, s[:at]+c+s[at+1:]) {
				right++
			}
		}
	}
	if right < 3000 {
		t.Error(right)
	}
}

// P10.2: each line left out, said twice, or at another's place.
func TestGetLines(t *testing.T) {
	b, _ := root.Put(plain())
	lines := strings.SplitAfter(string(b), "\n")
	lines = lines[:len(lines)-1]
	check := func(l []string) bool { return checkGet(t, strings.Join(l, "")) }
	right := 0
	for i := range lines {
		if check(slices.Delete(slices.Clone(lines), i, i+1)) || check(slices.Insert(slices.Clone(lines), i, lines[i])) {
			t.Error(i)
		}
		for j := range i {
			l := slices.Clone(lines)
			l[i], l[j] = l[j], l[i]
			if check(l) {
				right++
			}
		}
	}
	if right < 3 || right > 30 {
		t.Error(right)
	}
}

// P10.3: what is cut is none's; what is said behind it is too much.
func TestCut(t *testing.T) {
	for _, r := range []api.Root{{}, plain(), {Count: 10, Pool: ids(12)}, {Forks: forks(12, 0, 0)}, {Forks: forks(1, 12, 10)}, {Forks: forks(2, 1, 11)}} {
		b, is := root.Put(r)
		if !is {
			t.Fatal(r)
		}
		for at := range b {
			if checkGet(t, string(b[:at])) || at > 0 && checkGet(t, string(b[at:])) {
				t.Fatalf("cut at %d of %q", at, b)
			}
			if checkGet(t, string(b)+string(b[at:])) {
				t.Fatalf("more behind %q", b)
			}
		}
	}
}

// P10.3: a fork less leaves a right one.
func TestForkLess(t *testing.T) {
	for n := 1; n <= 16; n++ {
		all := forks(n, n, 24-n)
		for mask := range 1 << min(n, 8) {
			r := api.Root{Count: n, Pool: ids(n)}
			for i, f := range all {
				if mask>>(i%8)&1 == 0 {
					r.Forks = append(r.Forks, f)
				}
			}
			if n > 8 && mask%17 != 0 {
				continue
			}
			if !checkRoot(t, r) {
				t.Fatal(n, mask)
			}
		}
	}
	for i := range plain().Forks {
		r := plain()
		name := r.Forks[i].Name
		r.Forks = slices.Delete(r.Forks, i, i+1)
		if !checkRoot(t, r) || root.Find(r, name) != -1 {
			t.Error(i)
		}
	}
}

// P10.1 to P10.3: roots by chance, some with one thing that is wrong.
func TestByChance(t *testing.T) {
	r := rand.New(rand.NewSource(1))
	all := ids(30)
	some := func(most int) []string {
		var l []string
		for _, i := range r.Perm(len(all))[:r.Intn(most)] {
			l = append(l, all[i])
		}
		return l
	}
	right := 0
	for range 3000 {
		one := api.Root{Count: r.Intn(1 << r.Intn(42)), Pool: some(26)}
		name := 0
		for range r.Intn(18) {
			name += 1 + r.Intn(9)
			f := api.Fork{Name: fmt.Sprintf("%c-%03d", "az"[name/80], name), Linked: r.Intn(2) == 0, Head: "heads/h" + fmt.Sprint(r.Intn(9)), Packs: some(5)}
			for _, ref := range many(10) {
				if r.Intn(3) == 0 {
					f.Refs = append(f.Refs, ref)
				}
			}
			one.Forks = append(one.Forks, f)
		}
		spoil(r, &one)
		if checkRoot(t, one) {
			right++
		}
		if b, is := root.Put(one); is {
			at := r.Intn(len(b))
			b[at] = "0123456789abcdef -/\n"[r.Intn(20)]
			checkGet(t, string(b))
		}
	}
	if right < 1200 || right > 2800 {
		t.Error(right)
	}
}

// spoil has one thing be wrong, if chance says so and there is one.
func spoil(r *rand.Rand, one *api.Root) {
	if len(one.Forks) == 0 {
		return
	}
	f := &one.Forks[r.Intn(len(one.Forks))]
	switch r.Intn(20) {
	case 0:
		f.Name = "a-" + fmt.Sprint(r.Intn(200))
	case 1:
		f.Head = []string{"tags/x", "heads", ""}[r.Intn(3)]
	case 2:
		f.Packs = append(f.Packs, f.Packs...)
	case 3:
		f.Packs = append(f.Packs, id('a')[r.Intn(2):])
	case 4:
		f.Refs = append(f.Refs, api.Ref{Name: "heads/n00" + fmt.Sprint(r.Intn(12)), Id: id('a')})
	case 5:
		one.Count = r.Intn(3) - 3
	case 6:
		one.Pool = append(one.Pool, digest.Name(fmt.Append(nil, r.Intn(30))))
	}
}

// full is a root each of whose lists has spare room.
func full() api.Root {
	r := api.Root{Count: 5, Pool: append(ids(5), "spare", "room")[:5], Forks: append(forks(3, 4, 3), api.Fork{Name: "spare"})[:3]}
	for i := range r.Forks {
		r.Forks[i].Refs = append(r.Forks[i].Refs, api.Ref{Name: "spare"})[:4]
		r.Forks[i].Packs = append([]string{id('f')}, append(r.Forks[i].Packs, "spare")...)[:4]
	}
	return r
}

// wide is a root with all spare room.
func wide(r api.Root) api.Root {
	r.Pool = slices.Clone(r.Pool[:7])
	r.Forks = slices.Clone(r.Forks[:4])
	for i := range 3 {
		r.Forks[i].Refs = slices.Clone(r.Forks[i].Refs[:5])
		r.Forks[i].Packs = slices.Clone(r.Forks[i].Packs[:5])
	}
	return r
}

// P3: what is handed in stays, and its spare room.
func TestHandedIn(t *testing.T) {
	r := full()
	then := wide(r)
	b, is := root.Put(r)
	if !is || !root.Right(r) || root.Find(r, "spare") != -1 || !same(wide(r), then) {
		t.Fatal("what was handed in is another one")
	}
	text := append(slices.Clone(b), "spare"...)
	was := string(text)
	got, is := root.Get(text[:len(b)])
	if !is || !same(got, r) || string(text) != was {
		t.Fatal("what was handed in is another one")
	}
	clear(text)
	clear(b[:cap(b)])
	if !same(got, full()) || !same(wide(r), then) {
		t.Error("what was handed in was kept")
	}
}

// P3: what comes out is new, and no two lists of it share any room.
func TestComesOut(t *testing.T) {
	b, _ := root.Put(full())
	got, _ := root.Get(b)
	other, _ := root.Get(b)
	clear(got.Pool[:cap(got.Pool)])
	for i := range got.Forks {
		f := got.Forks[i]
		want := full().Forks[i]
		if !slices.Equal(f.Refs, want.Refs) || !slices.Equal(f.Packs, want.Packs) {
			t.Error("two lists share room")
		}
		clear(f.Refs[:cap(f.Refs)])
		if !slices.Equal(f.Packs, want.Packs) {
			t.Error("two lists share room")
		}
		clear(f.Packs[:cap(f.Packs)])
	}
	clear(got.Forks[:cap(got.Forks)])
	if again, is := root.Get(b); !is || !same(again, full()) || !same(other, full()) {
		t.Error("another answer is another one")
	}
	c, _ := root.Put(full())
	clear(b[:cap(b)])
	if got, is := root.Get(c); !is || !same(got, full()) {
		t.Error("another answer is another one")
	}
}

// P3: a call hangs on no other one, ahead of it or beside it.
func TestAlone(t *testing.T) {
	var wait sync.WaitGroup
	for n := range 8 {
		wait.Go(func() {
			r := api.Root{Count: n, Pool: ids(n), Forks: forks(n, n, n)}
			want, _ := twinPut(r)
			for range 50 {
				b, is := root.Put(r)
				got, back := root.Get(b)
				_, odd := root.Get(b[1:])
				if string(b) != want || !is || !back || odd || !same(got, r) {
					t.Error(n, is, back, odd)
				}
			}
		})
	}
	wait.Wait()
}
