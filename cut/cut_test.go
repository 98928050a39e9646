package cut_test

import (
	"math/rand"
	"slices"
	"strconv"
	"strings"
	"sync"
	"testing"

	"sacristy/api"
	"sacristy/cut"
	"sacristy/object"
	"sacristy/walk"
)

// project has four commits, of which 9 joins 7 and 8, which both stand on 6; a tag of 9; and b, which nobody names.
const project = "0=B 1=B 2=B 3=T10 4=T1011 5=T1233 6=C3 7=C46 8=C56 9=C478 a=G93 b=B"

// P11.1, K1
func TestSend(t *testing.T) {
	for _, c := range []struct {
		l, tips, wants, haves, sent string
		want                        api.Errno
	}{
		{project, "a", "a", "", "0123456789a", api.OK},
		{project, "9", "9", "", "0123456789", api.OK},
		{project, "8", "8", "", "023568", api.OK},
		{project, "7", "7", "", "013467", api.OK},
		{project, "6", "6", "", "036", api.OK},
		{project, "b", "b", "", "b", api.OK},
		{project, "0123456789ab", "6", "", "036", api.OK},
		// A commit, to who has its parent, and the like: what is new.
		{project, "9", "9", "6", "1245789", api.OK},
		{project, "9", "9", "7", "2589", api.OK},
		{project, "9", "9", "8", "1479", api.OK},
		{project, "9", "9", "78", "9", api.OK},
		{project, "9", "9", "87", "9", api.OK},
		{project, "9", "9", "67", "2589", api.OK},
		{project, "9", "9", "9", "", api.OK},
		{project, "a", "a", "9", "a", api.OK},
		{project, "a", "a", "a", "", api.OK},
		{project, "a", "a", "9a9a", "", api.OK},
		// A have need not be a commit, nor a tip.
		{project, "9", "9", "0", "123456789", api.OK},
		{project, "9", "9", "3", "12456789", api.OK},
		{project, "9", "9", "4", "2356789", api.OK},
		{project, "9", "9", "45", "6789", api.OK},
		{project, "9", "9", "012", "3456789", api.OK},
		{project, "0", "0", "0", "", api.OK},
		// Who has more than is wanted.
		{project, "79", "7", "9", "", api.OK},
		{project, "789", "7", "8", "147", api.OK},
		{project, "78", "7", "8", "147", api.OK},
		{project, "67", "6", "7", "", api.OK},
		{project, "6a", "6", "a", "", api.OK},
		// Several are wanted.
		{project, "78", "78", "", "012345678", api.OK},
		{project, "78", "87", "6", "124578", api.OK},
		{project, "78", "87", "7", "258", api.OK},
		{project, "78", "87", "87", "", api.OK},
		{project, "78b", "b7", "", "013467b", api.OK},
		{project, "b78", "b7", "8", "147b", api.OK},
		{project, "78b", "b7", "b", "013467", api.OK},
		{project, "87", "7778788", "666", "124578", api.OK},
		{project, "8777878", "7", "6", "147", api.OK},
		// A have that tips do not come to is none, even if it is there.
		{project, "7", "7", "9", "013467", api.OK},
		{project, "7", "7", "8", "013467", api.OK},
		{project, "7", "7", "a", "013467", api.OK},
		{project, "7", "7", "2", "013467", api.OK},
		{project, "7", "7", "5", "013467", api.OK},
		{project, "7", "7", "b", "013467", api.OK},
		{project, "7", "7", "c", "013467", api.OK},
		{project, "7", "7", "def8259ab", "013467", api.OK},
		{project, "7", "7", "c6", "147", api.OK},
		{project, "7", "7", "96", "147", api.OK},
		{project, "7", "7", "68", "147", api.OK},
		// Nothing is wanted, or what is no tip.
		{project, "9", "", "", "", api.ErrArg},
		{project, "9", "", "6", "", api.ErrArg},
		{project, "", "", "", "", api.ErrArg},
		{"", "", "", "", "", api.ErrArg},
		{project, "", "9", "", "", api.ErrArg},
		{project, "", "9", "9", "", api.ErrArg},
		{project, "9", "7", "", "", api.ErrArg}, // though 9 comes to it
		{project, "9", "0", "", "", api.ErrArg},
		{project, "9", "a", "", "", api.ErrArg},
		{project, "9", "97", "", "", api.ErrArg},
		{project, "9", "79", "", "", api.ErrArg},
		{project, "9", "999799", "7", "", api.ErrArg},
		{project, "78", "789", "", "", api.ErrArg},
		{project, "9", "c", "", "", api.ErrArg},
		{project, "9", "c", "c", "", api.ErrArg},
		// Something is lacking, wanted or not, had or not.
		{"", "a", "a", "", "", api.ErrLack},
		{"", "a", "a", "a", "", api.ErrLack},
		{"a=B", "ab", "a", "", "", api.ErrLack},
		{"a=B", "ba", "a", "a", "", api.ErrLack},
		{"a=B b=T1c", "ab", "a", "", "", api.ErrLack},
		{"a=B b=T1c", "ab", "a", "bc", "", api.ErrLack},
		{"a=B b=T1c", "b", "b", "", "", api.ErrLack},
		{"a=B b=T1c", "a", "a", "", "a", api.OK},
		{"a=B b=T1c", "a", "a", "bc", "a", api.OK},
		{"a=B b=T1a c=Cb d=Cbc", "d", "d", "", "abcd", api.OK},
		{"b=T1a c=Cb d=Cbc", "d", "d", "", "", api.ErrLack},
		{"b=T1a c=Cb d=Cbc", "d", "d", "c", "", api.ErrLack},
		{"a=B c=Cb d=Cbc", "d", "d", "", "", api.ErrLack},
		{"a=B b=T1a d=Cbc", "d", "d", "c", "", api.ErrLack},
		// What is wrong with the wants goes ahead of it.
		{"", "a", "", "", "", api.ErrArg},
		{"", "a", "b", "", "", api.ErrArg},
		{"a=B b=T1c", "b", "a", "", "", api.ErrArg},
		{"a=B b=T1c", "b", "c", "", "", api.ErrArg},
		{"a=B b=T1c", "b", "bc", "", "", api.ErrArg},
		{"a=B b=T1c", "b", "", "b", "", api.ErrArg},
		// What is not right names nothing; of whatever kind it must be, what is named is sent.
		{"a=! b=Ga3", "b", "b", "", "ab", api.OK},
		{"a=B b=T3a c=Cab", "c", "c", "", "abc", api.OK},
		{"a=B b=T3a c=Cab", "c", "c", "b", "c", api.OK},
		// As objects need not have their names, they may come to themselves.
		{"a=Gb4 b=Ga4", "a", "a", "", "ab", api.OK},
		{"a=Gb4 b=Ga4", "ab", "b", "a", "", api.OK},
		{"a=Gb4 b=Gc4 c=Gb4", "a", "a", "c", "a", api.OK},
		// The object of a name is the first.
		{"a=Gb1 a=Gc1 b=B c=B", "a", "a", "", "ab", api.OK},
		{"a=Gb1 a=Gc1 b=B c=B", "a", "a", "c", "ab", api.OK},
		{"a=Gc1 a=Gb1 b=B", "a", "a", "", "", api.ErrLack},
		{"9=B 2=T19 5=T12 1=B 7=C51", "7", "7", "2", "157", api.OK},
	} {
		l, tips, wants, haves := world(c.l), names(c.tips), names(c.wants), names(c.haves)
		got, e := cut.Send(l, tips, wants, haves)
		if letters(got) != c.sent || e != c.want {
			t.Errorf("of %s, in %s, to who wants %s, and has %s: %s %v", c.tips, c.l, c.wants, c.haves, letters(got), e)
		}
		checkSend(t, l, tips, wants, haves)
	}
}

// P11.1, K2
func TestUnion(t *testing.T) {
	for _, c := range []struct {
		l, tips, come string
		want          api.Errno
	}{
		{"", "", "", api.OK},
		{project, "", "", api.OK},
		{project, "-", "", api.OK},
		{project, "- - -", "", api.OK},
		{project, "9", "0123456789", api.OK},
		{project, "6", "036", api.OK},
		{project, "6 -", "036", api.OK},
		{project, "- 6", "036", api.OK},
		{project, "6 6 66", "036", api.OK},
		{project, "b 6", "036b", api.OK},
		{project, "6 b", "036b", api.OK},
		{project, "6b", "036b", api.OK},
		{project, "7 8", "012345678", api.OK},
		{project, "8 7", "012345678", api.OK},
		{project, "8 0 7b", "012345678b", api.OK},
		{project, "2 1 0", "012", api.OK},
		{project, "210", "012", api.OK},
		{project, "a b", "0123456789ab", api.OK},
		{"", "a", "", api.ErrLack},
		{project, "c", "", api.ErrLack},
		{project, "a c", "", api.ErrLack},
		{project, "c a", "", api.ErrLack},
		{project, "a - bc", "", api.ErrLack},
		{project, "cb - a", "", api.ErrLack},
		{"a=B b=T1c", "a", "a", api.OK},
		{"a=B b=T1c", "a b", "", api.ErrLack},
		{"a=B b=T1c", "b a", "", api.ErrLack},
		{"a=B b=T1c c=B", "b a", "abc", api.OK},
		{"a=Gb4 b=Ga4", "b", "ab", api.OK},
		{"a=! b=Ga3", "b", "ab", api.OK},
		{"a=Gb1 a=Gc1 b=B c=B", "a", "ab", api.OK},
		{"a=Gc1 a=Gb1 b=B", "b a", "", api.ErrLack},
	} {
		got, e := cut.Union(world(c.l), rows(c.tips))
		if letters(got) != c.come || e != c.want {
			t.Errorf("of %s, in %s: %s %v", c.tips, c.l, letters(got), e)
		}
		checkUnion(t, world(c.l), rows(c.tips))
	}
}

// P1, P11.1: tips, wants, haves and Ids may be any texts.
func TestOdd(t *testing.T) {
	l := []api.Held{{Id: "x", Obj: thing("B")}, {}, {Id: "y", Obj: api.Obj{Kind: -1}}, {Id: "\xff", Obj: thing("T10")}, {Id: name('0')}}
	for _, c := range []struct {
		tips, wants, haves, sent []string
		want                     api.Errno
	}{
		{[]string{"x"}, []string{"x"}, nil, []string{"x"}, api.OK},
		{[]string{""}, []string{""}, nil, []string{""}, api.OK},
		{[]string{""}, []string{""}, []string{""}, nil, api.OK},
		{[]string{"x", ""}, []string{"x"}, []string{""}, []string{"x"}, api.OK},
		{[]string{"x"}, []string{"x"}, []string{"", "X", " x", "xx", "\x00"}, []string{"x"}, api.OK},
		{[]string{"x"}, []string{""}, nil, nil, api.ErrArg},
		{[]string{"x"}, []string{"X"}, nil, nil, api.ErrArg},
		{[]string{"X"}, []string{"X"}, nil, nil, api.ErrLack},
		{[]string{"x", "X"}, []string{"x"}, nil, nil, api.ErrLack},
		{[]string{"\xff", "y", "x", ""}, []string{"y", "\xff", ""}, nil, []string{"", name('0'), "y", "\xff"}, api.OK},
		{[]string{"\xff", "y"}, []string{"y", "\xff"}, []string{"x", ""}, []string{name('0'), "y", "\xff"}, api.OK},
		{[]string{"\xff", "y"}, []string{"y", "\xff"}, names("01"), []string{"y", "\xff"}, api.OK},
		{[]string{"\xff", "\xfe"}, []string{"\xff"}, nil, nil, api.ErrLack},
	} {
		got, e := cut.Send(l, c.tips, c.wants, c.haves)
		if !slices.Equal(got, c.sent) || e != c.want {
			t.Errorf("of %q, to who wants %q, and has %q: %q %v", c.tips, c.wants, c.haves, got, e)
		}
		checkSend(t, l, c.tips, c.wants, c.haves)
		checkUnion(t, l, [][]string{c.tips, c.wants})
		checkUnion(t, l, [][]string{c.haves, nil})
	}
	// An object is called by its Id, whether or not that is its name.
	if _, e := cut.Union(l, [][]string{{object.Id(l[0].Obj)}}); e != api.ErrLack {
		t.Error(e)
	}
	long := strings.Repeat("x", 1<<20)
	if got, e := cut.Send([]api.Held{{Id: long}}, []string{long}, []string{long}, []string{long[1:]}); len(got) != 1 || e != api.OK {
		t.Error(len(got), e)
	}
}

// checkSend holds Send against the twin, and tells its error.
func checkSend(t *testing.T, l []api.Held, tips, wants, haves []string) api.Errno {
	t.Helper()
	got, e := cut.Send(l, tips, wants, haves)
	want, err := twinSend(l, tips, wants, haves)
	if e != err || !slices.Equal(got, want) || e != api.OK && got != nil {
		t.Fatalf("of %.70q, to who wants %.70q, and has %.70q: %.70q %v", tips, wants, haves, got, e)
	}
	return e
}

// checkUnion does so with Union.
func checkUnion(t *testing.T, l []api.Held, tips [][]string) api.Errno {
	t.Helper()
	got, e := cut.Union(l, tips)
	want, err := twinUnion(l, tips)
	if e != err || !slices.Equal(got, want) || e != api.OK && got != nil {
		t.Fatalf("of %.70q: %.70q %v", tips, got, e)
	}
	return e
}

// checkCut holds what is sent against the promises P11.2 to P11.4.
func checkCut(t *testing.T, l, more []api.Held, tips, wants, haves, others []string) {
	t.Helper()
	sent, e := cut.Send(l, tips, wants, haves)
	if e != api.OK {
		t.Fatal(e)
	}
	come, _ := cut.Union(l, [][]string{tips})
	ours, _ := cut.Union(l, [][]string{wants})
	var common, mine []string
	for _, id := range haves {
		if slices.Contains(come, id) {
			common = append(common, id)
		} else {
			mine = append(mine, id)
		}
	}
	theirs, _ := cut.Union(l, [][]string{common})

	if !within(ours, union(sent, theirs)) {
		t.Fatal("not enough", wants, haves, sent)
	}
	if !within(sent, ours) || !within(sent, come) || len(union(sent, theirs)) != len(sent)+len(theirs) {
		t.Fatal("more than is asked", wants, haves, sent)
	}
	same := func(l []api.Held, haves []string) {
		if again, e := cut.Send(l, tips, wants, haves); e != api.OK || !slices.Equal(again, sent) {
			t.Fatal("not the same", wants, haves, sent, again, e)
		}
	}
	same(l, common)
	same(l, slices.Concat(mine, common, mine))
	same(walk.Pick(l, come), haves)
	same(walk.Join(l, more), haves)
	same(slices.Concat(l, more), haves)
	for _, with := range [][]string{slices.Concat(haves, others), slices.Concat(others, haves)} {
		if less, e := cut.Send(l, tips, wants, with); e != api.OK || !within(less, sent) {
			t.Fatal("more is sent with more haves", haves, others, sent, less, e)
		}
	}
}

// P11.1 to P11.4: worlds by chance, against the twin, and against the promises.
func TestWorlds(t *testing.T) {
	r := rand.New(rand.NewSource(1))
	met, many := map[api.Errno]int{}, map[int]int{}
	for n := range 10000 {
		text := risingWorld(r)
		if n%3 == 0 {
			text = anyWorld(r)
		}
		l, more, tips := world(text), world(anyWorld(r)), some(r, all, 4)
		wants := some(r, tips, 3)
		if n%8 == 0 {
			wants = some(r, all, 3)
		}
		haves, others := names(some(r, all+"cd", 4)), names(some(r, all+"cd", 3))
		e := checkSend(t, l, names(tips), names(wants), haves)
		met[e]++
		if e != api.OK {
			continue
		}
		checkCut(t, l, more, names(tips), names(wants), haves, others)
		many[len(must(cut.Send(l, names(tips), names(wants), haves)))]++
	}
	if met[api.OK] < 1000 || met[api.ErrArg] < 1000 || met[api.ErrLack] < 1000 {
		t.Error(met)
	}
	if many[0] < 100 || many[1] < 100 || many[4] < 100 || many[8] < 20 {
		t.Error(many)
	}
}

// P11.1, K2: worlds by chance, against the twin, and against what is sent.
func TestUnionWorlds(t *testing.T) {
	r := rand.New(rand.NewSource(2))
	met := map[api.Errno]int{}
	for n := range 5000 {
		text := risingWorld(r)
		if n%3 == 0 {
			text = anyWorld(r)
		}
		l := world(text)
		var tips [][]string
		for range r.Intn(4) {
			tips = append(tips, names(some(r, all, 3)))
		}
		e := checkUnion(t, l, tips)
		met[e]++
		// To who has nothing all of it goes.
		row := slices.Concat(tips...)
		if sent, err := cut.Send(l, row, row, nil); len(row) > 0 && (err != e || e == api.OK && !slices.Equal(sent, must(cut.Union(l, tips)))) {
			t.Fatal(text, letters(row), letters(sent), err)
		}
	}
	if met[api.OK] < 1000 || met[api.ErrLack] < 1000 {
		t.Error(met)
	}
}

// P11.1: all that one may want and have of the project.
func TestProject(t *testing.T) {
	l := world(project)
	for n := range 1 << len(all) {
		var haves string
		for i := range len(all) {
			if n>>i&1 == 1 {
				haves += all[i : i+1]
			}
		}
		tips, wants := "798"[:1+n%3], "7"
		if n%5 == 0 {
			wants = tips
		}
		if e := checkSend(t, l, names(tips), names(wants), names(haves)); e != api.OK {
			t.Fatal(haves, e)
		}
		checkUnion(t, l, [][]string{names(haves), names(tips)})
	}
}

// P11.1 to P11.4: objects that have their names.
func TestCommits(t *testing.T) {
	var objs []api.Obj
	var tips []string
	for n := range 20 {
		more, id := commit(strconv.Itoa(n/2), tips[max(0, n-1):]...)
		objs, tips = append(objs, more...), append(tips, id)
	}
	l := walk.Set(objs)
	if len(l) != 10+10+20 {
		t.Fatal(len(l))
	}
	for n, want := range tips {
		for k, have := range tips {
			sent, e := cut.Send(l, tips, []string{want}, []string{have})
			many := max(0, n-k) + 2*max(0, n/2-k/2)
			if e != api.OK || len(sent) != many {
				t.Error(n, k, len(sent), e)
			}
			// Who has the one, and is sent that, has the other.
			old, _ := cut.Union(l, [][]string{{have}})
			if e := walk.Sound(walk.Pick(l, slices.Concat(old, sent)), []string{want}); e != api.OK {
				t.Error(n, k, e)
			}
			// Whose tip is the older one can't be asked for the newer one, nor told what it is.
			_, e = cut.Send(l, tips[:k+1], []string{want}, nil)
			if is := e == api.OK; is != (n <= k) {
				t.Error(n, k, e)
			}
			if all, _ := cut.Send(l, tips[:n+1], []string{want}, []string{have}); n < k && len(all) != n+1+2*(n/2+1) {
				t.Error(n, k, len(all))
			}
		}
		checkCut(t, walk.Pick(l, must(cut.Union(l, [][]string{{want}}))), l, tips[:n+1], []string{want}, tips[n/2:], tips[:n/3])
	}
	for i := range l {
		if _, e := cut.Send(slices.Delete(slices.Clone(l), i, i+1), tips[19:], tips[19:], tips); e != api.ErrLack {
			t.Error(i, e)
		}
		if _, e := cut.Union(slices.Delete(slices.Clone(l), i, i+1), [][]string{nil, tips[19:]}); e != api.ErrLack {
			t.Error(i, e)
		}
	}
}

func must(l []string, e api.Errno) []string {
	if e != api.OK {
		panic(e)
	}
	return l
}

// P1: many names end in good time.
func TestMany(t *testing.T) {
	const many = 1 << 16
	id := func(n int) string { s := strconv.FormatInt(int64(n), 16); return strings.Repeat("0", 64-len(s)) + s }
	var l []api.Held
	var ids []string
	var single [][]string
	for n := range many {
		// Each stands on the one ahead of it; the first on itself.
		l = append(l, api.Held{Id: id(n), Obj: api.Obj{Kind: api.Tag, Data: "object " + id(max(0, n-1)) + "\nkind tag\nname v\n\n"}})
		ids, single = append(ids, id(n)), append(single, []string{id(n)})
	}
	if got, e := cut.Send(l, ids, ids, nil); len(got) != many || e != api.OK {
		t.Error(len(got), e)
	}
	if got, e := cut.Send(l, ids, ids, ids[:many/2]); !slices.Equal(got, ids[many/2:]) || e != api.OK {
		t.Error(len(got), e)
	}
	if got, e := cut.Send(l, ids[many-1:], ids[many-1:], ids[many-2:many-1]); !slices.Equal(got, ids[many-1:]) || e != api.OK {
		t.Error(len(got), e)
	}
	if got, e := cut.Send(l, ids, append(slices.Clone(ids), "x"), ids); len(got) != 0 || e != api.ErrArg {
		t.Error(len(got), e)
	}
	if got, e := cut.Send(l[1:], ids, ids, ids); len(got) != 0 || e != api.ErrLack {
		t.Error(len(got), e)
	}
	slices.Reverse(l)
	if got, e := cut.Union(l, single); !slices.Equal(got, ids) || e != api.OK {
		t.Error(len(got), e)
	}
	if got, e := cut.Union(l, slices.Repeat([][]string{nil, ids[many-1:]}, many)); len(got) != many || e != api.OK {
		t.Error(len(got), e)
	}
	if got, e := cut.Union(l[:many-1], single); len(got) != 0 || e != api.ErrLack {
		t.Error(len(got), e)
	}
}

// P3: what is handed in stays as it is, its spare room too.
func TestHandedIn(t *testing.T) {
	l := world("9=C478 b=B 6=C3 8=C56 7=C46 5=T1233 4=T1011 3=T10 2=B 1=B 0=B a=G93 1=T")
	ids := names("997b796602c89")
	in := [][]string{names("90"), names("b796"), nil, names("c9")}
	held, asked := slices.Clone(l), slices.Clone(ids)
	for _, some := range [][]api.Held{l, l[:12], l[:5]} {
		cut.Send(some, ids[:5], ids[1:3], ids[3:8])
		cut.Send(some, ids[:4], ids[:3], nil)
		cut.Send(some, ids[:4], ids[:5], ids[7:9])
		cut.Send(some, ids, ids, ids)
		cut.Union(some, in[:2])
		cut.Union(some, [][]string{ids[:3], ids[2:5], ids})
		cut.Union(some, [][]string{ids[:3]})
	}
	if !slices.Equal(l, held) || !slices.Equal(ids, asked) {
		t.Error("changed", l, letters(ids))
	}
	if letters(in[0]) != "90" || letters(in[1]) != "b796" || in[2] != nil || letters(in[3]) != "c9" {
		t.Error("changed", in)
	}
}

// P3: what comes out is nobody else's, its spare room too.
func TestComeOut(t *testing.T) {
	l := world(project)
	ids, in := names("b679a"), [][]string{names("012")}
	held, asked := slices.Clone(l), slices.Clone(ids)
	for range 2 {
		for _, haves := range [][]string{nil, ids, ids[1:2], ids[:1]} {
			sent := must(cut.Send(l, ids, ids[:4], haves))
			clear(sent[:cap(sent)])
		}
		for _, tips := range [][][]string{in, {ids}, {ids[:2], ids[2:]}, {ids[:1], nil}} {
			come := must(cut.Union(l, tips))
			clear(come[:cap(come)])
		}
		if !slices.Equal(l, held) || !slices.Equal(ids, asked) || letters(in[0]) != "012" {
			t.Fatal("shared", l, ids, in)
		}
	}
}

// P3: a call hangs on no other one, before it or beside it.
func TestAlone(t *testing.T) {
	l := world(project + " c=Cd")
	var calls sync.WaitGroup
	for n := range 8 {
		calls.Go(func() {
			r := rand.New(rand.NewSource(int64(n)))
			for range 100 {
				tips, haves := names(some(r, "6789abc", 4)), names(some(r, all, 4))
				wants := tips[len(tips)/2:]
				got, e := cut.Send(l, tips, wants, haves)
				if want, err := twinSend(l, tips, wants, haves); e != err || !slices.Equal(got, want) {
					t.Error(tips, wants, haves)
				}
				got, e = cut.Union(l, [][]string{haves, tips})
				if want, err := twinUnion(l, [][]string{haves, tips}); e != err || !slices.Equal(got, want) {
					t.Error(haves, tips)
				}
			}
		})
	}
	calls.Wait()
}
