package refs_test

import (
	"fmt"
	"math/rand"
	"slices"
	"strings"
	"sync"
	"testing"

	"sacristy/api"
	"sacristy/digest"
	"sacristy/refs"
)

// id is a name of an object, by a digit.
func id(c byte) string { return strings.Repeat(string(c), 64) }

// said is refs as a text has them: each a name, and a digit of its Id.
func said(s string) []api.Ref {
	var l []api.Ref
	for _, w := range strings.Fields(s) {
		name, c, _ := strings.Cut(w, "=")
		l = append(l, api.Ref{Name: name, Id: id(c[0])})
	}
	return l
}

// asked is updates as a text has them: each a name, then a digit of Old and of New, or - for nothing.
func asked(s string) []api.Update {
	idOf := func(c byte) string {
		if c == '-' {
			return ""
		}
		return id(c)
	}
	var u []api.Update
	for _, w := range strings.Fields(s) {
		name, by, _ := strings.Cut(w, ":")
		u = append(u, api.Update{Name: name, Old: idOf(by[0]), New: idOf(by[1])})
	}
	return u
}

// many are n refs, rising.
func many(n int) []api.Ref {
	var l []api.Ref
	for i := range n {
		l = append(l, api.Ref{Name: fmt.Sprintf("heads/n%03d", i), Id: digest.Name([]byte{byte(i / 2)})})
	}
	return l
}

// noIds are texts that are neither empty nor names of objects.
func noIds() []string {
	zero := id('0')
	return []string{" ", "0", "-", zero[1:], zero + "0", zero + zero, zero[1:] + "A", zero[1:] + "g", "/" + zero[1:], ":" + zero[1:], "`" + zero[1:],
		zero[1:] + "\x00", "\xff" + zero[1:], zero[2:] + "é", id('F'), zero[1:] + "\n", " " + zero[1:], zero[1:] + " "}
}

// noNames are texts that are no refs' names.
func noNames() []string {
	x30 := strings.Repeat("x", 30)
	l := []string{
		"", "/", "//", "a", "heads", "tags", "heads/", "tags/", "heads//", "/heads", "/heads/a", "/a", "//a", "heads//a", "heads/a/", "heads/a//b", "tags/a/b/",
		"tags/a/b/c/", "heads/a/b/c/d", "tags/a/b/c/d/e", "head/a", "headss/a", "heads /a", " heads/a", "Heads/a", "HEADS/a", "tag/a", "tagss/a", "Tags/a", "x/a", "a/heads",
		"x/heads/a", "heads-/a", ".heads/a", "/tags/heads/a", "headstags/a", "refs/heads/a", "eads/a", "xheads/a", "remotes/a", "/a/b",
		"heads/.", "heads/..", "heads/.a", "tags/.a", "heads/a/.b", "heads/a/b/.c", "heads/../a", "heads/./a", "tags/.",
		"heads/A", "heads/aZ", "heads/a/B", "heads/a/b/C", "heads/a b", "heads/a ", "heads/ a", "heads/é", "heads/a\n", "heads/a\x00", "\nheads/a", "heads/a\xff", "heads\\a",
		"heads/a:b", "heads/a~", "heads/a^", "heads/a*", "heads/a@b", "heads/a`", "heads/a{", "heads/a[", "heads/a,b", "heads/a+b", "heads/a=b",
		"heads/" + x30 + "x", "heads/a/" + x30 + "x", "heads/a/b/" + x30 + "x", "tags/" + x30 + "x/a",
		"heads/" + x30 + "/" + x30 + "/" + x30, "heads/" + x30 + "/" + x30 + "/" + x30[:13], "tags/" + x30 + "/" + x30 + "/" + x30[:14],
		strings.Repeat("/", 80), strings.Repeat("heads/", 1000), "heads/" + strings.Repeat("x", 1<<16),
	}
	return append(l, noIds()...)
}

// goodNames are some that are.
func goodNames() []string {
	x30 := strings.Repeat("x", 30)
	return []string{
		"heads/a", "tags/a", "heads/heads", "heads/tags", "tags/heads/tags", "heads/z", "heads/0", "heads/9", "heads/-", "heads/_", "heads/--", "heads/a.", "heads/a..", "heads/-.",
		"heads/_.-a", "tags/v1.0_x-y", "heads/a/b", "heads/a/b/c", "tags/a/b/c", "tags/0/-/_", "heads/main", "heads/a.lock", "heads/a/b.c/d..e",
		"heads/" + x30, "tags/" + x30, "heads/a/" + x30, "heads/a/b/" + x30, "heads/" + x30 + "/" + x30, "tags/" + x30 + "/" + x30,
		"heads/" + x30 + "/" + x30 + "/" + x30[:12], "tags/" + x30 + "/" + x30 + "/" + x30[:13], "tags/" + x30 + "/" + x30[:13] + "/" + x30,
	}
}

// P9.1, I1: Named.
func TestNamed(t *testing.T) {
	for _, name := range goodNames() {
		if !refs.Named(name) {
			t.Errorf("%q is one", name)
		}
	}
	for _, name := range noNames() {
		if refs.Named(name) {
			t.Errorf("%.100q is none", name)
		}
	}
	const may = "abcdefghijklmnopqrstuvwxyz0123456789.-_"
	for c := range 256 {
		s := string([]byte{byte(c)})
		is := strings.Contains(may, s)
		for _, name := range []string{"heads/a" + s, "heads/a" + s + "a", "tags/a/b/c" + s} {
			want := is || s == "/" && name == "heads/a/a"
			if refs.Named(name) != want {
				t.Errorf("%q", name)
			}
		}
		for _, name := range []string{"heads/" + s, "tags/" + s + "a", "heads/a/" + s, "heads/a/b/" + s + "c"} {
			if refs.Named(name) != (is && s != ".") {
				t.Errorf("%q", name)
			}
		}
	}
}

// P9.1, I1: how long parts and names may be.
func TestNamedLengths(t *testing.T) {
	for _, first := range []string{"heads", "tags"} {
		for a := range 33 {
			for b := range 33 {
				for _, c := range []int{-1, 0, 1, 12, 13, 14, 29, 30, 31} {
					name := first + "/" + strings.Repeat("a", a) + "/" + strings.Repeat("b", b)
					fits := 1 <= a && a <= 30 && 1 <= b && b <= 30
					if c >= 0 {
						name += "/" + strings.Repeat("c", c)
						fits = fits && 1 <= c && c <= 30
					}
					if refs.Named(name) != (fits && len(name) <= 80) {
						t.Fatal(a, b, c)
					}
				}
			}
		}
	}
}

// P9.1, I1: Named of texts by chance, against the twin.
func TestNamedByChance(t *testing.T) {
	r := rand.New(rand.NewSource(1))
	pieces := []string{"heads", "tags", "head", "/", "/", "/", "a", "b0", ".", "..", "-", "_", "A", " ", "\n", "é", strings.Repeat("y", 14), strings.Repeat("z", 29)}
	right := 0
	for range 100000 {
		name := []string{"heads/", "tags/", "heads", "", "x/"}[r.Intn(5)]
		for range r.Intn(8) {
			name += pieces[r.Intn(len(pieces))]
		}
		if refs.Named(name) != twinNamed(name) {
			t.Fatalf("%q", name)
		}
		if twinNamed(name) {
			right++
		}
	}
	if right < 3000 {
		t.Error(right)
	}
}

// P9.1, I1: Right, and what Put and Apply answer of it.
func TestRight(t *testing.T) {
	for _, c := range []struct {
		l    string
		want bool
	}{
		{"", true},
		{"heads/a=1", true},
		{"heads/a=1 heads/b=1", true},
		{"heads/a=1 heads/b=2 tags/a=1 tags/b/c=3", true},
		{"heads/b=1 heads/a=1", false}, // names rise
		{"tags/a=1 heads/b=1", false},
		{"heads/a=1 heads/c=1 heads/b=1", false},
		{"heads/b=1 heads/c=1 heads/a=1", false},
		{"heads/a=1 heads/a=1", false}, // each once
		{"heads/a=1 heads/a=2", false},
		{"heads/a=1 heads/b=1 heads/a=1", false},
		{"heads/a=1 heads/a-=1 heads/a.=1 heads/a0=1 heads/a_=1 heads/ab=1", true}, // by bytes
		{"heads/a=1 heads/a.=1 heads/a-=1", false},
		{"heads/a_=1 heads/a0=1", false},
		{"heads/a=1 heads/a/b=1", false}, // none above another one
		{"heads/a/b=1 heads/a=1", false},
		{"heads/a=1 heads/a/b/c=1", false},
		{"heads/a/b=1 heads/a/b/c=1", false},
		{"heads/a/b=1 heads/a/c=1 heads/a/d/e=1 heads/b/a=1", true},
		{"heads/a/b=1 heads/a/b0=1 heads/a/b0/c=1", false},
		{"heads/a=1 heads/a-b=1 heads/a/b=1", false}, // wherever they stand
		{"heads/a=1 heads/a.b=1 heads/a/b/c=1", false},
		{"heads/0=1 heads/a=1 heads/a-=1 heads/a.=1 heads/a/b=1 heads/z=1", false},
		{"heads/a-b=1 heads/a/b=1 heads/ab=1", true},
		{"heads/a=1 tags/a/b=1", true},
		{"heads/a/b=1 tags/a=1", true},
		{"heads/a/b=1 heads/b=1", true},
		{"heads/b=1 heads/b0/c=1", true},
		{"heads=1 heads/a=1", false},
	} {
		checkRight(t, said(c.l), c.want)
	}
	most := many(65)
	checkRight(t, most[:63], true)
	checkRight(t, most[:64], true)
	checkRight(t, most, false)
	checkRight(t, slices.Repeat(most, 1000), false)
	most[63].Name = most[0].Name + "/x"
	checkRight(t, most[:64], false)
	most[63].Name = "tags/x"
	most[0].Name = "heads/n001"
	checkRight(t, most[:64], false)
}

// P9.1, I1: names and Ids that are none, wherever they stand.
func TestRightOdd(t *testing.T) {
	for _, at := range []int{0, 1, 2} {
		for _, name := range noNames() {
			l := said("heads/b=1 heads/c=1 heads/d=1")
			l[at].Name = name
			checkRight(t, l, false)
			checkRight(t, l[at:at+1], false)
			slices.SortFunc(l, func(a, b api.Ref) int { return strings.Compare(a.Name, b.Name) })
			checkRight(t, l, false)
		}
		for _, one := range append(noIds(), "") {
			l := said("heads/b=1 heads/c=1 heads/d=1")
			l[at].Id = one
			checkRight(t, l, false)
		}
		for _, name := range goodNames() {
			checkRight(t, []api.Ref{{Name: name, Id: digest.Name([]byte{byte(at)})}}, true)
		}
	}
	checkRight(t, []api.Ref{{}}, false)
}

func checkRight(t *testing.T, l []api.Ref, want bool) {
	t.Helper()
	if refs.Right(l) != want || twinRight(l[:min(len(l), 100)]) != want {
		t.Fatalf("%v: not %v", l, want)
	}
	s, is := refs.Put(l)
	wrote, _ := twinPut(l)
	if is != want || s != wrote {
		t.Fatalf("%q %v", s, is)
	}
	u := asked("tags/new:-1")
	if got, e, at := refs.Apply(l, u); !want && (len(got) != 0 || e != api.ErrArg || at != 0) {
		t.Fatal(got, e, at)
	}
	if !want {
		return
	}
	checkApply(t, l, u)
	if again, is := refs.Get(s); !is || !slices.Equal(again, l) {
		t.Fatal(again, is)
	}
}

// P9.1, I1: Find.
func TestFind(t *testing.T) {
	for _, c := range []struct{ l, name, want string }{
		{"", "", ""},
		{"", "heads/a", ""},
		{"heads/a=1", "heads/a", "1"},
		{"heads/a=1", "heads/b", ""},
		{"heads/a=1", "heads/A", ""},
		{"heads/a=1", "heads", ""},
		{"heads/a=1", "heads/a/b", ""},
		{"heads/a=1", "", ""},
		{"heads/a=1 heads/b=2 heads/c=3", "heads/a", "1"},
		{"heads/a=1 heads/b=2 heads/c=3", "heads/b", "2"},
		{"heads/a=1 heads/b=2 heads/c=3", "heads/c", "3"},
		{"heads/c=3 heads/a=1 heads/b=2", "heads/a", "1"}, // they need not be right
		{"heads/b=3 heads/a=1 heads/a=2", "heads/a", "1"}, // the first
		{"heads/a=2 heads/a=1", "heads/a", "2"},
		{"x=2 =1", "", "1"},
		{"x=2 =1", "x", "2"},
	} {
		want := ""
		if c.want != "" {
			want = id(c.want[0])
		}
		if got := refs.Find(said(c.l), c.name); got != want {
			t.Errorf("%q in %s: %s", c.name, c.l, got)
		}
	}
	odd := []api.Ref{{Name: "x", Id: "y"}, {Name: "", Id: ""}, {Name: "", Id: "z"}}
	if refs.Find(odd, "x") != "y" || refs.Find(odd, "") != "" {
		t.Error("odd")
	}
	for i, r := range many(200) {
		if refs.Find(many(200), r.Name) != r.Id {
			t.Error(i)
		}
	}
}

// P9.1, I1: Tips.
func TestTips(t *testing.T) {
	for _, c := range []struct{ l, want string }{
		{"", ""},
		{"heads/a=1", "1"},
		{"heads/a=1 heads/b=1", "1"},
		{"heads/a=2 heads/b=1", "1 2"},
		{"heads/a=2 heads/b=1 heads/c=2", "1 2"},
		{"heads/a=f heads/b=0 heads/c=a heads/d=9 heads/e=0", "0 9 a f"},
		{"heads/b=2 heads/b=1 heads/a=2", "1 2"}, // they need not be right
	} {
		var want []string
		for _, w := range strings.Fields(c.want) {
			want = append(want, id(w[0]))
		}
		if got := refs.Tips(said(c.l)); !slices.Equal(got, want) {
			t.Errorf("%s: %v", c.l, got)
		}
	}
	odd := []api.Ref{{Id: "y"}, {Id: ""}, {Id: "\xff"}, {Id: "y"}, {Id: "A"}, {Id: ""}}
	if got := refs.Tips(odd); !slices.Equal(got, []string{"", "A", "y", "\xff"}) {
		t.Errorf("%q", got)
	}
	if got := refs.Tips(many(1000)); len(got) != 256 || !slices.IsSorted(got) {
		t.Error(len(got))
	}
}

// P9.1, I2: each error, which of several goes first, and of which update it is.
func TestApply(t *testing.T) {
	const some = "heads/a=1 heads/b/c=2 tags/t=1"
	for _, c := range []struct {
		l, u, want string
		e          api.Errno
		at         int
	}{
		{"", "heads/a:-1", "heads/a=1", api.OK, 0},
		{"", "tags/b:-1 heads/c:-2 heads/a:-3", "heads/a=3 heads/c=2 tags/b=1", api.OK, 0},
		{"heads/a=1", "heads/a:1-", "", api.OK, 0},
		{some, "heads/a:12", "heads/a=2 heads/b/c=2 tags/t=1", api.OK, 0},
		{some, "heads/a:11", some, api.OK, 0}, // as it was
		{some, "heads/a:1-", "heads/b/c=2 tags/t=1", api.OK, 0},
		{some, "tags/t:13 heads/a:1- heads/aa:-4", "heads/aa=4 heads/b/c=2 tags/t=3", api.OK, 0},
		{some, "heads/a:1- heads/b/c:2- tags/t:1-", "", api.OK, 0},
		{some, "heads/ab:-1 heads/a-:-1 heads/b/d:-1 heads/a0/b:-1", "heads/a=1 heads/a-=1 heads/a0/b=1 heads/ab=1 heads/b/c=2 heads/b/d=1 tags/t=1", api.OK, 0},
		{some, "tags/a/b:-1", "heads/a=1 heads/b/c=2 tags/a/b=1 tags/t=1", api.OK, 0},
		// What is none.
		{some, "", "", api.ErrArg, 0},
		{some, "heads:-1", "", api.ErrArg, 0},
		{some, "heads/a:12 heads:-1", "", api.ErrArg, 1},
		{some, "heads/a:--", "", api.ErrArg, 0},
		{some, "heads/x:--", "", api.ErrArg, 0},
		{some, "heads/a:12 heads/b/c:2- heads/x:--", "", api.ErrArg, 2},
		{some, "heads/a:12 heads/a:12", "", api.ErrArg, 1},
		{some, "heads/a:12 heads/a:21", "", api.ErrArg, 1},
		{some, "heads/x:-2 heads/y:-2 heads/x:-2 heads/y:-2", "", api.ErrArg, 2},
		{some, "heads/a:1- heads/y:-2 heads/a:-1", "", api.ErrArg, 2},
		{some, "heads:-1 heads:-1 heads/a:--", "", api.ErrArg, 0},
		{some, "heads/x:-1 heads/x:-1 heads:-1", "", api.ErrArg, 1},
		// Another one than was thought.
		{some, "heads/a:-2", "", api.ErrStale, 0},
		{some, "heads/a:-1", "", api.ErrStale, 0},
		{some, "heads/a:21", "", api.ErrStale, 0},
		{some, "heads/a:2-", "", api.ErrStale, 0},
		{some, "heads/x:1-", "", api.ErrStale, 0},
		{some, "heads/x:11", "", api.ErrStale, 0},
		{some, "heads/b:2-", "", api.ErrStale, 0},
		{some, "heads/b/c:23 heads/a:12 tags/t:2- heads/x:12", "", api.ErrStale, 2},
		{some, "heads/a:12 heads/x:-1 heads/y:1-", "", api.ErrStale, 2},
		// There is one already.
		{some, "heads/a/x:-1", "", api.ErrThere, 0},
		{some, "heads/a/x/y:-1", "", api.ErrThere, 0},
		{some, "heads/b:-1", "", api.ErrThere, 0},
		{some, "heads/b/c/d:-1", "", api.ErrThere, 0},
		{some, "heads/x:-1 heads/b:-1 heads/a/x:-1", "", api.ErrThere, 1},
		{some, "heads/x:-1 heads/x/y:-1", "", api.ErrThere, 0}, // both are, of one another
		{some, "heads/x/y:-1 heads/x:-1", "", api.ErrThere, 0},
		{some, "heads/y:-1 heads/x/y:-1 heads/z:-1 heads/x:-1", "", api.ErrThere, 1},
		{some, "heads/a:12 heads/a/x:-1", "", api.ErrThere, 0},
		{some, "heads/a:11 heads/a/x:-1", "", api.ErrThere, 0},
		{some, "heads/a/x:-1 heads/a:12", "", api.ErrThere, 0},
		{some, "tags/t:1- heads/a/x:-1", "", api.ErrThere, 1},
		{some, "heads/b/c:2- heads/a/x:-1", "", api.ErrThere, 1},
		{"heads/a=1 heads/a-=1", "heads/a/x:-1", "", api.ErrThere, 0},
		{"heads/a-=1 heads/a/x=1", "heads/a:-1", "", api.ErrThere, 0},
		// Not what was there, but what is then.
		{some, "heads/a:1- heads/a/x:-1", "heads/a/x=1 heads/b/c=2 tags/t=1", api.OK, 0},
		{some, "heads/a/x:-1 heads/a:1-", "heads/a/x=1 heads/b/c=2 tags/t=1", api.OK, 0},
		{some, "heads/b/c:2- heads/b:-1", "heads/a=1 heads/b=1 tags/t=1", api.OK, 0},
		{some, "heads/b:-1 heads/b/c:2-", "heads/a=1 heads/b=1 tags/t=1", api.OK, 0},
		{some, "heads/b/c/d:-1 heads/b/c:2- heads/a/x/y:-3 heads/a:1-", "heads/a/x/y=3 heads/b/c/d=1 tags/t=1", api.OK, 0},
		{"heads/b/c=1 heads/b/d=1", "heads/b:-1 heads/b/c:1-", "", api.ErrThere, 0},
		{"heads/b/c=1 heads/b/d=1", "heads/b:-1 heads/b/c:1- heads/b/d:1-", "heads/b=1", api.OK, 0},
		// Several.
		{some, "heads/a/x:-1 heads/a:2- heads:-1", "", api.ErrArg, 2},
		{some, "heads/a/x:-1 heads/a:2- heads/x:-1", "", api.ErrStale, 1},
		{some, "heads/a:2- heads/a:2-", "", api.ErrArg, 1},
	} {
		u := asked(c.u)
		got, e, at := refs.Apply(said(c.l), u)
		want := said(c.want)
		if c.e != api.OK && len(u) > 0 {
			want = said(c.l)
		}
		if e != c.e || at != c.at || !slices.Equal(got, want) {
			t.Errorf("%s of %s: %v %v %d", c.u, c.l, got, e, at)
		}
		checkApply(t, said(c.l), u)
	}
}

// P9.1, I2: names and Ids that are none, and how many updates may be.
func TestApplyOdd(t *testing.T) {
	l := many(20)
	var u []api.Update
	for _, r := range l {
		u = append(u, api.Update{Name: r.Name, Old: r.Id, New: id('7')})
	}
	wrong := func(u []api.Update, want api.Errno, at int) {
		t.Helper()
		got, e, n := refs.Apply(l, u)
		if e != want || n != at {
			t.Fatal(len(u), e, n)
		}
		checkApply(t, l, u)
		if len(u) > 16 && len(got) != 0 {
			t.Fatal(got)
		}
	}
	wrong(u[:1], api.OK, 0)
	wrong(u[:16], api.OK, 0)
	wrong(u[:17], api.ErrArg, 0)
	wrong(u[:0], api.ErrArg, 0)
	wrong(nil, api.ErrArg, 0)
	wrong(slices.Repeat(u, 1000), api.ErrArg, 0)
	wrong(make([]api.Update, 16), api.ErrArg, 0)
	for at := range 16 {
		for _, name := range noNames() {
			odd := slices.Clone(u[:16])
			odd[at].Name = name
			wrong(odd, api.ErrArg, at)
			wrong([]api.Update{{Name: name, New: id('1')}}, api.ErrArg, 0)
		}
		for _, one := range noIds() {
			odd := slices.Clone(u[:16])
			odd[at].Old = one
			wrong(odd, api.ErrArg, at)
			odd = slices.Clone(u[:16])
			odd[at].New = one
			wrong(odd, api.ErrArg, at)
			odd[15].Old = id('9') // goes behind
			wrong(odd, api.ErrArg, at)
		}
		odd := slices.Clone(u[:16])
		odd[at].Old = ""
		wrong(odd, api.ErrStale, at)
		odd[at].Old = id('9')
		wrong(odd, api.ErrStale, at)
	}
	// Refs that are not right are of no use, whatever the updates are.
	for _, bad := range []string{"heads/b=1 heads/a=1", "heads=1", "heads/a=1 heads/a/b=1"} {
		got, e, at := refs.Apply(said(bad), asked("tags/x:-1 heads:-1"))
		if len(got) != 0 || e != api.ErrArg || at != 0 {
			t.Error(got, e, at)
		}
	}
}

// P9.1, I2: how many refs there may be then.
func TestApplyMost(t *testing.T) {
	fill := func(n int) (u []api.Update) {
		for i := range n {
			u = append(u, api.Update{Name: fmt.Sprintf("tags/%02d", i), New: id('1')})
		}
		return u
	}
	less := func(l []api.Ref, n int) (u []api.Update) {
		for _, r := range l[:n] {
			u = append(u, api.Update{Name: r.Name, Old: r.Id})
		}
		return u
	}
	for _, c := range []struct {
		l    []api.Ref
		u    []api.Update
		want api.Errno
		at   int
	}{
		{many(63), fill(1), api.OK, 0},
		{many(63), fill(2), api.ErrTooMany, 0},
		{many(64), fill(1), api.ErrTooMany, 0},
		{many(48), fill(16), api.OK, 0},
		{many(49), fill(16), api.ErrTooMany, 0},
		{many(64), append(fill(8), less(many(64), 8)...), api.OK, 0},
		{many(64), append(fill(8), less(many(64), 7)...), api.ErrTooMany, 0},
		{many(64), append(less(many(64), 7), fill(8)...), api.ErrTooMany, 0},
		{many(64), less(many(64), 16), api.OK, 0},
		{many(64), append(fill(2), api.Update{Name: "heads/n001/x", New: id('1')}), api.ErrThere, 2}, // goes ahead
		{many(64), append(fill(2), api.Update{Name: "heads/n001", New: id('1')}), api.ErrStale, 2},
		{many(64), append(fill(2), api.Update{Name: "heads/n001"}), api.ErrArg, 2},
		{many(65), fill(1), api.ErrArg, 0},
	} {
		_, e, at := refs.Apply(c.l, c.u)
		if e != c.want || at != c.at {
			t.Error(len(c.l), len(c.u), e, at)
		}
		checkApply(t, c.l, c.u)
	}
}

// turned is updates turned about.
func turned(u []api.Update) []api.Update {
	var back []api.Update
	for _, x := range u {
		back = append(back, api.Update{Name: x.Name, Old: x.New, New: x.Old})
	}
	return back
}

// checkApply holds what Apply answers against the twin, and against the promises P9.2 and P9.3.
func checkApply(t *testing.T, l []api.Ref, u []api.Update) api.Errno {
	t.Helper()
	got, e, at := refs.Apply(l, u)
	want, wrong, place := twinApply(l, u)
	if !slices.Equal(got, want) || e != wrong || at != place {
		t.Fatalf("%v of %v: %v %v %d", u, l, got, e, at)
	}
	if e != api.OK {
		return e
	}
	if !refs.Right(got) {
		t.Fatalf("%v", got)
	}
	for _, x := range u {
		if refs.Find(got, x.Name) != x.New {
			t.Fatalf("%v", x)
		}
	}
	for _, r := range slices.Concat(l, got) {
		touched := slices.ContainsFunc(u, func(x api.Update) bool { return x.Name == r.Name })
		if !touched && refs.Find(got, r.Name) != refs.Find(l, r.Name) {
			t.Fatalf("%v", r)
		}
	}
	back, e, at := refs.Apply(got, turned(u))
	if !slices.Equal(back, l) || e != api.OK || at != 0 {
		t.Fatalf("%v back: %v %v %d", u, back, e, at)
	}
	turn := slices.Clone(u)
	slices.Reverse(turn)
	if other, e, _ := refs.Apply(l, turn); !slices.Equal(other, got) || e != api.OK {
		t.Fatalf("%v in another order: %v %v", u, other, e)
	}
	return api.OK
}

// P9.1 to P9.3: refs that are changed by chance, again and again.
func TestApplyByChance(t *testing.T) {
	r := rand.New(rand.NewSource(2))
	var names []string
	for _, a := range []string{"heads/a", "heads/a-", "heads/a0", "heads/b", "tags/a", "tags/b"} {
		names = append(names, a, a+"/b", a+"/c", a+"/b/c", a+"/b-", a+"/b/c.")
	}
	odd := []string{"heads", "heads/.a", ""}
	ids := []string{id('1'), id('2'), id('3')}
	times := map[api.Errno]int{}
	var l []api.Ref
	for n := range 60000 {
		if n%40 == 0 {
			l = nil
		}
		var u []api.Update
		for range 1 + r.Intn(7) {
			name := names[r.Intn(len(names))]
			x := api.Update{Name: name, Old: refs.Find(l, name), New: ids[r.Intn(len(ids))]}
			switch r.Intn(40) {
			case 0:
				x.Name = odd[r.Intn(len(odd))]
			case 1:
				x.New = "x"
			case 2, 3:
				x.Old = ids[r.Intn(len(ids))]
			case 4:
				x.Old = ""
			case 5, 6, 7, 8, 9, 10, 11, 12, 13, 14:
				x.New = ""
			}
			u = append(u, x)
		}
		times[checkApply(t, l, u)]++
		l, _, _ = refs.Apply(l, u)
	}
	for _, e := range []api.Errno{api.OK, api.ErrArg, api.ErrStale, api.ErrThere} {
		if times[e] < 3000 {
			t.Error(e, times)
		}
	}
}

// checkGet holds Get against the twin.
func checkGet(t *testing.T, s string) bool {
	t.Helper()
	got, is := refs.Get(s)
	want, right := twinGet(s)
	if is != right || !slices.Equal(got, want) {
		t.Fatalf("%.300q: %v %v", s, got, is)
	}
	if again, _ := refs.Put(got); is && again != s {
		t.Fatalf("%.300q: %.300q", s, again)
	}
	return is
}

// P9.1, P9.4: lines that are known, and such as are none's.
func TestGet(t *testing.T) {
	a, b := id('a'), id('b')
	for i, c := range []struct {
		s    string
		want bool
	}{
		{"", true},
		{a + " heads/a\n", true},
		{a + " heads/a\n" + b + " heads/b\n", true},
		{a + " heads/a\n" + a + " tags/b/c/d\n", true},
		{"\n", false},
		{" \n", false},
		{" ", false},
		{"x", false},
		{a + "\n", false},
		{a + " \n", false},
		{" heads/a\n", false},
		{"heads/a\n", false},
		{a + " heads/a", false}, // its end is lacking
		{a + "heads/a\n", false},
		{a + "\theads/a\n", false},
		{a + "  heads/a\n", false},
		{" " + a + " heads/a\n", false},
		{a + " heads/a \n", false},
		{a + " heads/a\r\n", false},
		{a + " heads/a\n\n", false},
		{"\n" + a + " heads/a\n", false},
		{a + " heads/a\nx", false},
		{a + " heads/a\x00", false},
		{a + " heads/a\n" + b + " heads/b", false},
		{a + " heads/a " + b + " heads/b\n", false},
		{a + " heads/a" + b + " heads/b\n", false},
		{a + " heads/a\n\n" + b + " heads/b\n", false},
		{a + " heads/b\n" + b + " heads/a\n", false}, // not right
		{a + " heads/a\n" + a + " heads/a\n", false},
		{a + " heads/a\n" + a + " heads/a/b\n", false},
		{a + " heads/a\n" + a + " heads/a-\n" + a + " heads/a/b\n", false},
		{a + " Heads/a\n", false},
		{a + " heads\n", false},
		{id('A') + " heads/a\n", false},
		{a[1:] + " heads/a\n", false},
		{a + "a heads/a\n", false},
		{"heads/a " + a + "\n", false},
		{strings.Repeat("\n", 1<<20), false},
		{strings.Repeat(" \n", 1<<20), false},
		{strings.Repeat("x", 1<<20), false},
		{strings.Repeat(a+" heads/a\n", 65), false},
	} {
		if checkGet(t, c.s) != c.want {
			t.Errorf("%d: %.200q", i, c.s)
		}
	}
	var s []string
	for _, r := range many(65) {
		s = append(s, r.Id+" "+r.Name+"\n")
	}
	for n := range s {
		if !checkGet(t, strings.Join(s[:n], "")) {
			t.Error(n)
		}
	}
	if checkGet(t, strings.Join(s, "")) {
		t.Error("65 refs")
	}
}

// P9.4: each byte changed, put in or left out.
func TestGetChanged(t *testing.T) {
	s, is := refs.Put(said("heads/a=1 heads/b.c/d=a tags/v1=f"))
	if !is {
		t.Fatal(s)
	}
	right := 0
	for at := range len(s) + 1 {
		if at > 0 && at < len(s) {
			checkGet(t, s[:at])
			checkGet(t, s[at:])
		}
		for _, c := range []string{"", "0", "a", "z", "A", "/", ".", "-", " ", "\n", "\x00", "\xff"} {
			if checkGet(t, s[:at]+c+s[at:]) {
				right++
			}
			if at < len(s) && checkGet(t, s[:at]+c+s[at+1:]) {
				right++
			}
		}
	}
	if right < 400 {
		t.Error(right)
	}
}

// P9.4: refs of all kinds, there and back.
func TestThereAndBack(t *testing.T) {
	r := rand.New(rand.NewSource(3))
	for n := range 500 {
		var names []string
		for range n % 70 {
			name := fmt.Sprintf("%s/%c%d", []string{"heads", "tags"}[r.Intn(2)], "a-_."[r.Intn(4)], r.Intn(100))
			names = append(names, name+[]string{"", "", "", "/x", "/y-z/0"}[r.Intn(5)])
		}
		slices.Sort(names)
		var l []api.Ref
		for i, name := range slices.Compact(names) {
			l = append(l, api.Ref{Name: name, Id: digest.Name([]byte{byte(i), byte(n)})})
		}
		s, is := refs.Put(l)
		if want, right := twinPut(l); s != want || is != right || refs.Right(l) != right {
			t.Fatal(l, s, is)
		}
		if got, back := refs.Get(s); is && (!back || !slices.Equal(got, l)) {
			t.Fatal(l, got)
		}
	}
}

// P3: what is handed in stays, and its spare room; what comes out is new.
func TestHandedIn(t *testing.T) {
	room := append(many(20), api.Ref{Name: "spare"}, api.Ref{Name: "room"})
	asks := append(asked("tags/a:-1 heads/z:-2 tags/a/b:-3 tags/c:--"), api.Update{Name: "spare"})
	asks[1] = api.Update{Name: room[3].Name, Old: room[3].Id}
	all, then := slices.Clone(room), slices.Clone(asks)
	l := room[:20]
	for range 3 {
		for n, want := range []api.Errno{api.ErrArg, api.OK, api.OK, api.ErrThere, api.ErrArg} {
			got, e, _ := refs.Apply(l, asks[:n])
			if e != want {
				t.Fatal(n, e)
			}
			clear(got[:cap(got)])
		}
		ids := refs.Tips(l)
		clear(ids[:cap(ids)])
		s, _ := refs.Put(l)
		got, _ := refs.Get(s)
		if !slices.Equal(got, l) || !refs.Right(l) || refs.Find(l, "spare") != "" {
			t.Fatal(got)
		}
		clear(got[:cap(got)])
		if !slices.Equal(room, all) || !slices.Equal(asks, then) {
			t.Fatal("what was handed in is another one")
		}
	}
	got, _, _ := refs.Apply(l, asks[:1])
	clear(l)
	clear(asks)
	if got[0] != all[0] {
		t.Error(got[0])
	}
}

// P3: a call hangs on no other one, ahead of it or beside it.
func TestAlone(t *testing.T) {
	var wait sync.WaitGroup
	for n := range 8 {
		wait.Go(func() {
			l := many(8 * n)
			u := []api.Update{{Name: "heads/x", New: id('1')}, {Name: "tags/x", New: id('2')}}
			want, _, _ := twinApply(l, u)
			for range 50 {
				got, e, _ := refs.Apply(l, u)
				s, is := refs.Put(got)
				again, back := refs.Get(s)
				if e != api.OK || !is || !back || !slices.Equal(got, want) || !slices.Equal(again, want) {
					t.Error(n, e, is, back)
				}
			}
		})
	}
	wait.Wait()
}
