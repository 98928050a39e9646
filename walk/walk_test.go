package walk_test

import (
	"math"
	"math/rand"
	"slices"
	"strconv"
	"strings"
	"sync"
	"testing"

	"sacristy/api"
	"sacristy/object"
	"sacristy/walk"
)

// wrong are objects that are not right.
func wrong() []api.Obj {
	long := strings.Repeat("x", api.MaxData+1)
	return []api.Obj{
		{}, {Data: "x"}, {Kind: api.Blob, Data: long}, {Kind: 5}, {Kind: api.Back}, {Kind: api.Base}, {Kind: -1},
		{Kind: math.MaxInt}, {Kind: math.MinInt, Data: "x"}, {Kind: api.Tree, Data: "x"}, {Kind: api.Commit}, {Kind: api.Tag},
		{Kind: api.Tree, Data: thing("C0").Data}, {Kind: api.Commit, Data: thing("G01").Data}, {Kind: api.Tag, Data: thing("C0").Data},
		{Kind: api.Commit, Data: thing("C0").Data + long}, thing("!2"), thing("!3"), thing("!4"),
	}
}

// right are some that are, no two of them one.
func right() []api.Obj {
	l := []api.Obj{
		{Kind: api.Blob}, {Kind: api.Tree}, {Kind: api.Blob, Data: strings.Repeat("x", api.MaxData)},
		thing("T1a"), thing("T2a"), thing("T1a3b"), thing("C0"), thing("C01"), thing("G01"), thing("G04"),
	}
	for _, o := range slices.Clone(l[3:]) {
		l = append(l, api.Obj{Kind: api.Blob, Data: o.Data})
	}
	for n := range 40 {
		l = append(l, api.Obj{Kind: api.Blob, Data: strconv.Itoa(n)})
	}
	return l
}

func checkSet(t *testing.T, l []api.Obj, n int) {
	t.Helper()
	got := walk.Set(l)
	if len(got) != n || !slices.Equal(got, twinSet(l)) {
		t.Errorf("%d of %d, not %d", len(got), len(l), n)
	}
	for i, h := range got {
		if h.Id != object.Id(h.Obj) || !object.Right(h.Obj) || i > 0 && got[i-1].Id >= h.Id {
			t.Errorf("%d: %s", i, h.Id)
		}
	}
}

// P5.1, E1: Set.
func TestSet(t *testing.T) {
	good, bad := right(), wrong()
	checkSet(t, nil, 0)
	checkSet(t, []api.Obj{}, 0)
	checkSet(t, bad, 0)
	for _, o := range bad {
		checkSet(t, []api.Obj{o}, 0)
		checkSet(t, []api.Obj{good[0], o, good[1]}, 2)
	}
	for _, o := range good {
		checkSet(t, []api.Obj{o}, 1)
		checkSet(t, []api.Obj{o, o}, 1)
		checkSet(t, []api.Obj{o, good[0], o, {}, good[0], o}, min(2, len(twinSet([]api.Obj{o, good[0]}))))
	}
	checkSet(t, good, len(good))
	checkSet(t, slices.Concat(good, bad, good), len(good))
	slices.Reverse(good)
	checkSet(t, good, len(good))
	r := rand.New(rand.NewSource(1))
	for range 20 {
		l := slices.Concat(good, bad, good[:r.Intn(len(good))])
		r.Shuffle(len(l), func(i, j int) { l[i], l[j] = l[j], l[i] })
		checkSet(t, l, len(good))
	}
	// One text may be two objects, by their kinds.
	if l := walk.Set([]api.Obj{{Kind: api.Tree}, {Kind: api.Blob}}); len(l) != 2 || l[0].Id == l[1].Id {
		t.Error(l)
	}
}

// P5.1, E1: Join.
func TestJoin(t *testing.T) {
	for _, c := range []struct{ a, b, want string }{
		{"", "", ""},
		{"a1", "", "a1"},
		{"", "a1", "a1"},
		{"a1", "a1", "a1"},
		{"a1", "a2", "a1"},
		{"a1", "b2", "a1 b2"},
		{"b1", "a2", "a2 b1"},
		{"b1 a2", "", "a2 b1"},
		{"", "b1 a2", "a2 b1"},
		{"a1 a2", "", "a1"},
		{"a2 a1", "", "a2"},
		{"", "a2 a1", "a2"},
		{"a2 a3", "a1", "a2"},
		{"a2", "a3 a1", "a2"},
		{"b5", "a2 b4 a1", "a2 b5"},
		{"c1 a2", "b3 a4 d5 c6", "a2 b3 c1 d5"},
		{"B1 a2 A3", "b4 B5", "A3 B1 a2 b4"},
		{"a1 -2", "b3", "-2 a1 b3"},
		{"a1", "-3 -2", "-3 a1"},
		{"-1", "-2", "-1"},
		{"a9 b8 c7 d6", "d1 c2 b3 a4", "a9 b8 c7 d6"},
		{"a", "a1", "a"}, // an empty blob is one
	} {
		if got := walk.Join(said(c.a), said(c.b)); !slices.Equal(got, said(c.want)) {
			t.Errorf("%s and %s: %v", c.a, c.b, got)
		}
	}
	// An Id's object need not be right.
	odd := []api.Held{{Id: "x", Obj: api.Obj{Kind: -7}}, {}}
	if got := walk.Join(odd, said("x1 -2")); !slices.Equal(got, []api.Held{odd[1], odd[0]}) {
		t.Error(got)
	}
}

// P5.1, E1: of many of one Id the first stays, wherever they stand.
func TestJoinMany(t *testing.T) {
	r := rand.New(rand.NewSource(2))
	for n := range 200 {
		var l []api.Held
		for i := range n {
			l = append(l, api.Held{Id: strconv.Itoa(r.Intn(1 + n/4)), Obj: api.Obj{Kind: r.Intn(6), Data: strconv.Itoa(i)}})
		}
		at := r.Intn(n + 1)
		got := walk.Join(l[:at], l[at:])
		if !slices.Equal(got, twinJoin(l[:at], l[at:])) {
			t.Fatal(n, at, got)
		}
		if !slices.Equal(walk.Join(got, got), got) || !slices.Equal(walk.Join(got, l), got) || !slices.Equal(walk.Join(nil, got), got) {
			t.Fatal(n, at)
		}
	}
}

// P5.1, E1: Find.
func TestFind(t *testing.T) {
	for _, c := range []struct {
		l, id, want string
		is          bool
	}{
		{"", "a", "", false},
		{"", "-", "", false},
		{"a1", "a", "1", true},
		{"a1", "b", "", false},
		{"a1", "A", "", false},
		{"a1", "-", "", false},
		{"-1", "-", "1", true},
		{"a1 -2", "-", "2", true},
		{"c1 a2 b3", "b", "3", true}, // they need not rise
		{"c1 a2 b3", "a", "2", true},
		{"a1 a2", "a", "1", true}, // the first
		{"b0 a2 a1 a3", "a", "2", true},
		{"a b1", "a", "", true},
	} {
		got, is := walk.Find(said(c.l), ids(c.id)[0])
		want := api.Obj{}
		if c.is {
			want = api.Obj{Kind: api.Blob, Data: c.want}
		}
		if got != want || is != c.is {
			t.Errorf("%s in %s: %v %v", c.id, c.l, got, is)
		}
	}
	// What is there need not be right, nor have its own name.
	if o, is := walk.Find([]api.Held{{Id: "x"}, {Id: "x", Obj: thing("B")}}, "x"); !is || o != (api.Obj{}) {
		t.Error(o, is)
	}
	if _, is := walk.Find(said("a1"), object.Id(api.Obj{Kind: api.Blob, Data: "1"})); is {
		t.Error("an object is found by its name, where its Id is another one")
	}
	for _, h := range walk.Set(right()) {
		if o, is := walk.Find(walk.Set(right()), h.Id); !is || o != h.Obj {
			t.Error(h.Id)
		}
	}
}

// P5.1, E1: Pick.
func TestPick(t *testing.T) {
	for _, c := range []struct{ l, ids, want string }{
		{"", "", ""},
		{"", "a", ""},
		{"a1", "", ""},
		{"a1", "a", "a1"},
		{"a1", "b", ""},
		{"a1", "-", ""},
		{"a1 -2", "-", "-2"},
		{"a1", "a a", "a1"},
		{"a1 b2 c3", "c a", "a1 c3"}, // as they stand, not as they are asked
		{"c3 b2 a1", "a b c", "c3 b2 a1"},
		{"c3 b2 a1", "b x", "b2"},
		{"b1 a2 b3 a2", "a b", "b1 a2 b3 a2"}, // all of an Id
		{"b1 a2 b3", "b", "b1 b3"},
		{"a1 A2", "A", "A2"},
	} {
		if got := walk.Pick(said(c.l), ids(c.ids)); !slices.Equal(got, said(c.want)) {
			t.Errorf("%s of %s: %v", c.ids, c.l, got)
		}
	}
	odd := []api.Held{{}, {Id: "x", Obj: api.Obj{Kind: 9}}, {Id: "y"}}
	if got := walk.Pick(odd, []string{"y", "", "x"}); !slices.Equal(got, odd) {
		t.Error(got)
	}
}

// P5.1, E2
func TestClosure(t *testing.T) {
	const project = "a=B b=T1a c=Cb d=Cbc e=Gd3 f=B"
	for _, c := range []struct{ l, tips, have, lacking string }{
		{"", "", "", ""},
		{project, "", "", ""},
		{"", "a", "", "a"},
		{"b=B", "a", "", "a"},
		{"a=T", "a", "a", ""},
		{project, "a", "a", ""},
		{project, "b", "ab", ""},
		{project, "c", "abc", ""},
		{project, "d", "abcd", ""},
		{project, "e", "abcde", ""},
		{project, "fe", "abcdef", ""},
		{project, "ecacebb", "abcde", ""},
		{project, "c0", "abc", "0"},
		{project, "91c190", "abc", "019"},
		{"f=B e=Gd3 d=Cbc c=Cb b=T1a a=B", "e", "abcde", ""},
		{"b=T1a c=Cb", "c", "bc", "a"},
		{"a=B c=Cb", "c", "c", "b"},
		{"a=B c=Cb", "ca", "ac", "b"},
		{"c=Cb", "bc", "c", "b"},
		{"a=B b=B c=T d=T1a2b3c", "d", "abcd", ""},
		{"d=T1a2b3c", "d", "d", "abc"},
		{"d=T3c2a1b", "d", "d", "abc"},
		{"d=T1a3a", "d", "d", "a"},
		{"9=C012345678", "9", "9", "012345678"},
		{"9=C012345678 8=C0", "9", "89", "01234567"},
		{"1=Ga1 2=Ga2 3=Ga3 4=Ga4", "1", "1", "a"},
		{"1=Ga1 2=Ga2 3=Ga3 4=Ga4", "4321", "1234", "a"},
		{"a=B b=T1a c=T2a d=T3b3c e=Cd", "e", "abcde", ""}, // by two ways
		// Of whatever kind it must be, what is named is come to.
		{"a=B b=Ca c=Gb1", "c", "abc", ""},
		{"a=B b=T3a c=Cab", "c", "abc", ""},
		// What is not right names nothing, but is there.
		{"c=!3 d=Gc3", "d", "cd", ""},
		{"c=!0", "c", "c", ""}, {"c=!2", "c", "c", ""}, {"c=!4", "c", "c", ""}, {"c=!5", "c", "c", ""}, {"c=!9", "c", "c", ""},
		// As objects need not have their names, they may come to themselves.
		{"a=Ga4", "a", "a", ""},
		{"a=Gb4 b=Ga4", "a", "ab", ""},
		{"a=Gb4 b=Gc4 c=Gb4", "a", "abc", ""},
		{"a=Gb4 b=Gc4 c=Gb4", "c", "bc", ""},
		{"a=T3a1b", "a", "a", "b"},
		// The object of a name is the first.
		{"a=Gb1 a=Gc1 b=B c=B", "a", "ab", ""},
		{"a=Gc1 a=Gb1 b=B", "a", "a", "c"},
		{"a=!3 a=Gb1 b=B", "a", "a", ""},
		{"a=B a=Gb1", "a", "a", ""},
	} {
		have, lacking := walk.Closure(world(c.l), names(c.tips))
		if letters(have) != c.have || letters(lacking) != c.lacking {
			t.Errorf("%s come to, in %s: %s, and lacking %s", c.tips, c.l, letters(have), letters(lacking))
		}
	}
}

// P5.1, E2: tips and Ids may be any texts, and a blob's bytes too.
func TestClosureOdd(t *testing.T) {
	for _, c := range []struct {
		l                   []api.Held
		tips, have, lacking []string
	}{
		{nil, []string{""}, nil, []string{""}},
		{nil, []string{"x", "", "\xff", "x", "X", "é", "xx"}, nil, []string{"", "X", "x", "xx", "é", "\xff"}},
		{said("x1 -2 X3"), []string{"x", "", "y", "X", "x"}, []string{"", "X", "x"}, []string{"y"}},
		{[]api.Held{{}}, []string{"", "x"}, []string{""}, []string{"x"}},
		{[]api.Held{{Id: "x", Obj: thing("T1a")}}, []string{"x"}, []string{"x"}, names("a")},
		{[]api.Held{{Id: "x", Obj: api.Obj{Kind: api.Blob, Data: thing("T1a").Data}}}, []string{"x"}, []string{"x"}, nil},
		{[]api.Held{{Id: "x", Obj: api.Obj{Kind: api.Blob, Data: thing("C0").Data}}}, []string{"x"}, []string{"x"}, nil},
		{[]api.Held{{Id: "x", Obj: api.Obj{Kind: api.Commit, Data: thing("G01").Data}}}, []string{"x"}, []string{"x"}, nil},
		{said("a1"), []string{object.Id(said("a1")[0].Obj)}, nil, []string{object.Id(said("a1")[0].Obj)}},
	} {
		have, lacking := walk.Closure(c.l, c.tips)
		if !slices.Equal(have, c.have) || !slices.Equal(lacking, c.lacking) {
			t.Errorf("%q: %q, and lacking %q", c.tips, have, lacking)
		}
	}
}

// P5.1, E3
func TestSound(t *testing.T) {
	const project = "a=B b=T1a c=Cb d=Cbc e=Gd3 f=B"
	for _, c := range []struct {
		l, tips string
		want    api.Errno
	}{
		{"", "", api.OK},
		{"", "a", api.ErrLack},
		{project, "", api.OK},
		{project, "a", api.OK}, {project, "b", api.OK}, {project, "c", api.OK}, {project, "d", api.OK}, {project, "e", api.OK},
		{project, "abcdef", api.OK},
		{project, "e0", api.ErrLack}, {project, "0e", api.ErrLack},
		{"a=B b=B c=T d=T1a2b3c", "d", api.OK},
		// What a tree's items must be.
		{"a=T b=T1a", "b", api.ErrCorrupt}, {"a=C0 b=T1a 0=T", "b", api.ErrCorrupt}, {"a=Ga4 b=T1a", "b", api.ErrCorrupt},
		{"a=T b=T2a", "b", api.ErrCorrupt}, {"a=C0 b=T2a 0=T", "b", api.ErrCorrupt}, {"a=Ga4 b=T2a", "b", api.ErrCorrupt},
		{"a=B b=T3a", "b", api.ErrCorrupt}, {"a=C0 b=T3a 0=T", "b", api.ErrCorrupt}, {"a=Ga4 b=T3a", "b", api.ErrCorrupt},
		{"a=B b=T1a1a3a", "b", api.ErrCorrupt}, {"a=B b=T3a1a1a", "b", api.ErrCorrupt}, {"a=B c=T b=T1a3c3a1a", "b", api.ErrCorrupt},
		// A commit's tree and parents.
		{"a=T c=Ca", "c", api.OK}, {"a=B c=Ca", "c", api.ErrCorrupt}, {"a=C0 0=T c=Ca", "c", api.ErrCorrupt}, {"a=Ga4 c=Ca", "c", api.ErrCorrupt},
		{"a=T b=Ca c=Cab", "c", api.OK}, {"a=T b=B c=Cab", "c", api.ErrCorrupt}, {"a=T b=T c=Cab", "c", api.ErrCorrupt}, {"a=T b=Ga2 c=Cab", "c", api.ErrCorrupt},
		{"a=T b=Ca d=B c=Cabd", "c", api.ErrCorrupt}, {"a=T b=Ca d=B c=Cadb", "c", api.ErrCorrupt}, {"a=T b=Ca d=Ca c=Cadb", "c", api.OK},
		{"a=T c=Caa", "c", api.ErrCorrupt},
		// A tag's object.
		{"a=B c=Ga1", "c", api.OK}, {"a=B c=Ga2", "c", api.ErrCorrupt}, {"a=B c=Ga3", "c", api.ErrCorrupt}, {"a=B c=Ga4", "c", api.ErrCorrupt},
		{"a=T c=Ga1", "c", api.ErrCorrupt}, {"a=T c=Ga2", "c", api.OK}, {"a=T c=Ga3", "c", api.ErrCorrupt}, {"a=T c=Ga4", "c", api.ErrCorrupt},
		{"a=C0 0=T c=Ga2", "c", api.ErrCorrupt}, {"a=C0 0=T c=Ga3", "c", api.OK}, {"a=G01 0=B c=Ga3", "c", api.ErrCorrupt}, {"a=G01 0=B c=Ga4", "c", api.OK},
		// Far off, and where nobody comes.
		{"a=B b=T3a c=Cb d=Cbc e=Gd3", "e", api.ErrCorrupt},
		{"b=T1a c=Cb d=Cbc e=Gd3", "e", api.ErrLack},
		{"a=B b=T3a c=B", "c", api.OK},
		{"b=T1a c=B", "c", api.OK},
		// What is lacking goes ahead, wherever it is.
		{"a=B b=T3a", "bc", api.ErrLack}, {"a=B b=T3a", "cb", api.ErrLack},
		{"a=B b=T3a c=Gd1", "bc", api.ErrLack}, {"a=B b=T3a c=Gd1", "cb", api.ErrLack},
		{"a=B b=T3a3d", "b", api.ErrLack}, {"a=B b=T3d3a", "b", api.ErrLack},
		{"a=B c=Cab", "c", api.ErrLack}, {"b=B c=Cab", "c", api.ErrLack},
		{"a=T1d b=T1a", "b", api.ErrLack}, // behind what is of another kind
		// One that must be of two kinds can't.
		{"a=B b=T1a3a", "b", api.ErrCorrupt}, {"a=T b=T1a3a", "b", api.ErrCorrupt}, {"a=T b=T1a c=T3a", "bc", api.ErrCorrupt},
		// Its kind alone is asked for: what is not right may have the one that it must have.
		{"a=!3 b=Ga3", "b", api.OK}, {"a=!2 b=T3a", "b", api.OK}, {"a=!4 b=Ga4", "b", api.OK},
		{"a=!3 b=Ga4", "b", api.ErrCorrupt}, {"a=!0 b=Ga1", "b", api.ErrCorrupt}, {"a=!9 b=Ga3", "b", api.ErrCorrupt},
		{"a=!0", "a", api.OK}, {"a=!9", "a", api.OK},
		// The object of a name is the first.
		{"a=B a=T b=T1a", "b", api.OK}, {"a=T a=B b=T1a", "b", api.ErrCorrupt},
		{"a=Gb1 a=B b=T", "a", api.ErrCorrupt}, {"a=B a=Gb1", "a", api.OK},
		// Those that come to themselves.
		{"a=Ga4", "a", api.OK}, {"a=Ga3", "a", api.ErrCorrupt}, {"a=Gb4 b=Ga4", "a", api.OK}, {"a=Gb4 b=Ga2", "a", api.ErrCorrupt},
	} {
		if got := walk.Sound(world(c.l), names(c.tips)); got != c.want {
			t.Errorf("%s in %s: %v, not %v", c.tips, c.l, got, c.want)
		}
	}
	for _, tip := range []string{"", "x", name('A'), strings.Repeat("x", 1<<16)} {
		if got := walk.Sound(world(project), []string{tip}); got != api.ErrLack {
			t.Errorf("%.70q: %v", tip, got)
		}
		if got := walk.Sound([]api.Held{{Id: tip}}, []string{tip, tip}); got != api.OK {
			t.Errorf("%.70q: %v", tip, got)
		}
	}
}

// checkClosed holds what is come to against the promises P5.2 and P5.3.
func checkClosed(t *testing.T, l, more []api.Held, tips, others []string) {
	t.Helper()
	have, lacking := walk.Closure(l, tips)
	come := union(have, lacking)
	if len(come) != len(have)+len(lacking) {
		t.Fatal("both there and lacking", have, lacking)
	}
	named := slices.Clone(tips)
	for _, id := range have {
		o, is := walk.Find(l, id)
		if !is {
			t.Fatal("not there", id)
		}
		for _, w := range object.Wants(o) {
			named = append(named, w.Id)
		}
	}
	if !slices.Equal(union(named, nil), come) {
		t.Fatal("not just what is named", named, come)
	}
	if len(walk.Pick(l, lacking)) != 0 {
		t.Fatal("not lacking", lacking)
	}
	again, lost := walk.Closure(l, come)
	if !slices.Equal(again, have) || !slices.Equal(lost, lacking) {
		t.Fatal("not closed", come, again, lost)
	}
	other, gone := walk.Closure(l, others)
	both, none := walk.Closure(l, slices.Concat(tips, others))
	if !slices.Equal(both, union(have, other)) || !slices.Equal(none, union(lacking, gone)) {
		t.Fatal("not as each", tips, others)
	}
	for _, with := range [][]api.Held{walk.Join(l, more), slices.Concat(l, more)} {
		now, left := walk.Closure(with, tips)
		if !slices.Equal(union(now, have), now) || !slices.Equal(union(come, union(now, left)), union(now, left)) {
			t.Fatal("fewer with more", have, now, left)
		}
		if walk.Sound(l, tips) == api.OK && walk.Sound(with, tips) != api.OK {
			t.Fatal("no more sound", tips)
		}
	}
}

// P5.1, P5.2, P5.3: worlds by chance, against the twins.
func TestWorlds(t *testing.T) {
	r := rand.New(rand.NewSource(3))
	met := map[api.Errno]int{}
	for n := range 10000 {
		text := anyWorld(r)
		if n%2 == 0 {
			text = soundWorld(r)
		}
		l, more := world(text), world(anyWorld(r))
		tips, others := names(some(r, all, 3)), names(some(r, all, 3))
		have, lacking := walk.Closure(l, tips)
		if a, b := twinClosure(l, tips); !slices.Equal(have, a) || !slices.Equal(lacking, b) {
			t.Fatalf("%s come to, in %s: %s, and lacking %s", letters(tips), text, letters(have), letters(lacking))
		}
		e := walk.Sound(l, tips)
		if e != twinSound(l, tips) {
			t.Fatalf("%s in %s: %v", letters(tips), text, e)
		}
		if len(tips) > 0 {
			met[e]++
		}
		if !slices.Equal(walk.Join(l, more), twinJoin(l, more)) || !slices.Equal(walk.Pick(l, tips), twinPick(l, tips)) {
			t.Fatal(text, letters(tips))
		}
		o, is := walk.Find(l, name(all[n%12]))
		if want, was := twinFind(l, name(all[n%12])); o != want || is != was {
			t.Fatal(text, n%12)
		}
		checkClosed(t, l, more, tips, others)
	}
	if met[api.OK] < 1000 || met[api.ErrLack] < 1000 || met[api.ErrCorrupt] < 1000 {
		t.Error(met)
	}
}

// P5.1 to P5.3: objects that have their names.
func TestProject(t *testing.T) {
	var objs []api.Obj
	var commits []string
	add := func(kind int, data string, is bool) string {
		if !is {
			t.Fatal(kind, data)
		}
		o := api.Obj{Kind: kind, Data: data}
		objs = append(objs, o)
		return object.Id(o)
	}
	for n := range 30 {
		one := add(api.Blob, strconv.Itoa(n), true)
		two := add(api.Blob, strconv.Itoa(n/3), true)
		s, is := object.PutTree([]api.Item{{Mode: api.Plain, Name: "a", Id: one}})
		sub := add(api.Tree, s, is)
		s, is = object.PutTree([]api.Item{{Mode: api.Exec, Name: "b", Id: two}, {Mode: api.Dir, Name: "c", Id: sub}})
		top := add(api.Tree, s, is)
		s, is = object.PutChange(api.Change{Tree: top, Parents: commits[max(0, n-2):]})
		commits = append(commits, add(api.Commit, s, is))
	}
	s, is := object.PutLabel(api.Label{Id: commits[29], Kind: api.Commit, Name: "v1"})
	tag := add(api.Tag, s, is)
	l := walk.Set(objs)
	// Each second blob is one that is there already.
	have, lacking := walk.Closure(l, []string{tag})
	if len(l) != 30+30+30+30+1 || len(have) != len(l) || len(lacking) != 0 || walk.Sound(l, []string{tag}) != api.OK {
		t.Error(len(l), len(have), len(lacking))
	}
	for n, tip := range commits {
		have, lacking = walk.Closure(l, []string{tip})
		if len(have) != 4*(n+1) || len(lacking) != 0 {
			t.Error(n, len(have), len(lacking))
		}
		part := walk.Pick(l, have)
		if again, lost := walk.Closure(part, []string{tip}); !slices.Equal(again, have) || len(lost) != 0 || walk.Sound(part, []string{tip}) != api.OK {
			t.Error(n, len(again), len(lost))
		}
		checkClosed(t, part, l, []string{tip}, commits[n/2:])
		checkClosed(t, l[n:], l, []string{tip}, []string{tag})
	}
	for i, h := range l {
		less := slices.Concat(l[:i], l[i+1:])
		if have, lacking = walk.Closure(less, []string{tag}); !slices.Equal(lacking, []string{h.Id}) && h.Id != tag {
			t.Error(i, lacking)
		}
		if walk.Sound(less, []string{tag}) != api.ErrLack || walk.Sound(walk.Join(less, l[i:i+1]), []string{tag}) != api.OK {
			t.Error(i)
		}
	}
}

// P1: many objects, that stand on one another, end in good time.
func TestMany(t *testing.T) {
	const many = 1 << 17
	id := func(n int) string { s := strconv.FormatInt(int64(n), 16); return strings.Repeat("0", 64-len(s)) + s }
	var l []api.Held
	for n := range many {
		l = append(l, api.Held{Id: id(n), Obj: api.Obj{Kind: api.Tag, Data: "object " + id(n+1) + "\nkind tag\nname v\n\n"}})
	}
	tips := []string{id(0)}
	have, lacking := walk.Closure(l, tips)
	if len(have) != many || !slices.Equal(lacking, []string{id(many)}) || walk.Sound(l, tips) != api.ErrLack {
		t.Error(len(have), len(lacking))
	}
	l = append(l, api.Held{Id: id(many)})
	if e := walk.Sound(l, tips); e != api.ErrCorrupt {
		t.Error(e)
	}
	l[many].Obj.Kind = api.Tag
	if e := walk.Sound(l, have); e != api.OK {
		t.Error(e)
	}
	if got := walk.Pick(l, have); len(got) != many {
		t.Error(len(got))
	}
	slices.Reverse(l)
	if got := walk.Join(l, l); len(got) != many+1 || got[0].Id != id(0) {
		t.Error(len(got))
	}
	if _, lacking = walk.Closure(nil, slices.Repeat(have, 2)); len(lacking) != many {
		t.Error(len(lacking))
	}
}

// P3: what is handed in stays as it is, its spare room too.
func TestHandedIn(t *testing.T) {
	l := world("e=Gd3 b=T1a b=B d=Cbc a=B c=Cb f=B 0=B")
	tips := names("eacbb10")
	objs := slices.Concat(right(), wrong(), right())
	held, asked, given := slices.Clone(l), slices.Clone(tips), slices.Clone(objs)
	a, b, c, o := l[:4:6], l[4:6], tips[:3:5], objs[:9]
	walk.Set(o)
	walk.Join(a, b)
	walk.Join(a, nil)
	walk.Join(nil, a)
	walk.Find(a, name('b'))
	walk.Pick(a, c)
	walk.Closure(a, c)
	walk.Sound(a, c)
	walk.Sound(l, c)
	if !slices.Equal(l, held) || !slices.Equal(tips, asked) || !slices.Equal(objs, given) {
		t.Error("changed", l, tips)
	}
}

// P3: what comes out is nobody else's, its spare room too.
func TestComeOut(t *testing.T) {
	l := world("a=B b=T1a c=Cb 1=B")
	tips := names("abc")
	held, asked := slices.Clone(l), slices.Clone(tips)
	for _, got := range [][]api.Held{
		walk.Join(l, nil), walk.Join(nil, l), walk.Join(l, l), walk.Join(l[:2], l[2:]), walk.Join(l[:2], nil),
		walk.Pick(l, tips), walk.Pick(l[:2], tips),
	} {
		clear(got[:cap(got)])
	}
	have, lacking := walk.Closure(l[:1], append(names("23"), tips...))
	clear(have[:cap(have)])
	if letters(lacking) != "23bc" {
		t.Error(lacking)
	}
	have, lacking = walk.Closure(l, append(names("23"), tips...))
	clear(lacking[:cap(lacking)])
	if letters(have) != "abc" {
		t.Error(have)
	}
	have, _ = walk.Closure(l, tips)
	clear(have[:cap(have)])
	if !slices.Equal(l, held) || !slices.Equal(tips, asked) {
		t.Error("shared", l, tips)
	}
}

// P3: a call hangs on no other one, before it or beside it.
func TestAlone(t *testing.T) {
	l := world("a=B b=T1a c=Cb d=Cbc e=Gd3 f=T19")
	var calls sync.WaitGroup
	for n := range 8 {
		calls.Go(func() {
			r := rand.New(rand.NewSource(int64(n)))
			for range 100 {
				tips := names(some(r, "abcdef", 4))
				have, lacking := walk.Closure(l, tips)
				if a, b := twinClosure(l, tips); !slices.Equal(have, a) || !slices.Equal(lacking, b) || walk.Sound(l, tips) != twinSound(l, tips) {
					t.Error(tips)
				}
			}
		})
	}
	calls.Wait()
}
