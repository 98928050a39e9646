package island_test

import (
	"math"
	"math/rand"
	"slices"
	"strconv"
	"strings"
	"sync"
	"testing"

	"sacristy/api"
	"sacristy/delta"
	"sacristy/island"
	"sacristy/object"
	"sacristy/pack"
	"sacristy/walk"
)

// project has four commits, of which 9 joins 7 and 8, which both stand on 6; a tag of 9; and b, which nobody names.
const project = "0=B 1=B 2=B 3=T10 4=T1011 5=T1233 6=C3 7=C46 8=C56 9=C478 a=G93 b=B"

// P12.1, L1
func TestMarks(t *testing.T) {
	for _, c := range []struct {
		l, tips string
		marks   []int
	}{
		{"", "", nil},
		{"", "a b", nil},
		{project, "", make([]int, 12)},
		{project, "-", make([]int, 12)},
		{project, "- - -", make([]int, 12)},
		{project, "c", make([]int, 12)},
		{project, "a", []int{1, 1, 1, 1, 1, 1, 1, 1, 1, 1, 1, 0}},
		{project, "b", []int{0, 0, 0, 0, 0, 0, 0, 0, 0, 0, 0, 1}},
		{project, "6", []int{1, 0, 0, 1, 0, 0, 1, 0, 0, 0, 0, 0}},
		{project, "6 7 8", []int{7, 2, 4, 7, 2, 4, 7, 2, 4, 0, 0, 0}},
		{project, "8 7 6", []int{7, 2, 1, 7, 2, 1, 7, 2, 1, 0, 0, 0}},
		{project, "78 6", []int{3, 1, 1, 3, 1, 1, 3, 1, 1, 0, 0, 0}},
		{project, "6b - 9", []int{5, 4, 4, 5, 4, 4, 5, 4, 4, 4, 0, 1}},
		{project, "- - b b", []int{0, 0, 0, 0, 0, 0, 0, 0, 0, 0, 0, 12}},
		{project, "00 0 10", []int{7, 4, 0, 0, 0, 0, 0, 0, 0, 0, 0, 0}},
		{project, "c cb bc", []int{0, 0, 0, 0, 0, 0, 0, 0, 0, 0, 0, 6}},
		// What is lacking is no way to what it would name.
		{"0=B 6=C3 7=C46", "7 6 0", []int{4, 3, 1}},
		{"0=B 3=T10 7=C36", "7", []int{1, 1, 1}},
		{"0=B 3=T10 9=C78 8=C3", "9 8", []int{3, 3, 1, 3}},
		{"0=B 3=T10 9=C37 8=C3", "9 8", []int{3, 3, 1, 2}},
		// Objects in any order, one that is not right, some that come to themselves.
		{"9=C67 7=C36 6=T10 3=T12 2=B 1=B 0=B", "6 7 9", []int{4, 6, 7, 6, 6, 0, 7}},
		{"a=! b=Ga3 0=B", "b a", []int{3, 1, 0}},
		{"a=Gb4 b=Gc4 c=Gb4", "a b c", []int{1, 7, 7}},
		// The object of a name is the first; the mark is that of the name.
		{"a=Gb1 a=Gc1 b=B c=B b=T1c", "a c", []int{1, 1, 1, 2, 1}},
		{"a=Gc1 a=Gb1 b=B c=B", "a - b", []int{1, 1, 4, 1}},
		{"a=B a=Gb1 b=B", "a", []int{1, 1, 0}},
	} {
		checkMarks(t, world(c.l), rows(c.tips), c.marks)
	}
}

func checkMarks(t *testing.T, l []api.Held, tips [][]string, want []int) {
	t.Helper()
	if twin := twinMarks(l, tips); !slices.Equal(twin, want) {
		t.Errorf("the twin has %v, not %v, in %v", twin, want, tips)
	}
	if got := island.Marks(l, tips); !slices.Equal(got, want) {
		t.Errorf("of %v: %v, not %v", tips, got, want)
	}
}

// P12.1, L1: rows 0 to 30 have a bit, those behind them none.
func TestRows(t *testing.T) {
	l := world(project)
	tips, want := [][]string{}, make([]int, 12)
	for n := range 70 {
		checkMarks(t, l, tips, want)
		letter := all[n%12]
		row := []string{name(letter)}
		tips = append(tips, row)
		if n > 30 {
			continue
		}
		come, _ := walk.Closure(l, row)
		for i, h := range l {
			if slices.Contains(come, h.Id) {
				want[i] |= 1 << n
			}
		}
	}
	every := slices.Repeat([][]string{names("ab")}, 31)
	checkMarks(t, l, every, slices.Repeat([]int{1<<31 - 1}, 12))
	checkMarks(t, l, append(every, names("ab")), slices.Repeat([]int{1<<31 - 1}, 12))
	checkMarks(t, l, append(make([][]string, 30), names("b")), []int{0, 0, 0, 0, 0, 0, 0, 0, 0, 0, 0, 1 << 30})
	checkMarks(t, l, append(make([][]string, 31), names("b")), make([]int, 12))
}

// P1, P12.1: tips and Ids may be any texts.
func TestOdd(t *testing.T) {
	l := []api.Held{{Id: "x", Obj: thing("B")}, {}, {Id: "y", Obj: api.Obj{Kind: -1}}, {Id: "\xff", Obj: thing("T10")}, {Id: name('0')}}
	checkMarks(t, l, [][]string{{"x"}, {"", "X"}, {"\xff", "\xff"}, {" x", "xx"}, {"y", name('0')}}, []int{1, 2, 16, 4, 4 + 16})
	checkMarks(t, l, [][]string{{"\xff", "\x00", "", "y", "x"}}, []int{1, 1, 1, 1, 1})
	long := strings.Repeat("x", 1<<20)
	checkMarks(t, []api.Held{{Id: long}, {Id: long[1:]}}, [][]string{{long}, {long[1:]}, {long[2:]}}, []int{1, 2})
}

// P12.1, L1: worlds by chance, against the twin.
func TestWorlds(t *testing.T) {
	r := rand.New(rand.NewSource(1))
	met := map[int]int{}
	for range 5000 {
		text := anyWorld(r)
		l := world(text)
		var tips [][]string
		for range r.Intn(5) {
			tips = append(tips, names(some(r, all+"c", 3)))
		}
		got := island.Marks(l, tips)
		if want := twinMarks(l, tips); !slices.Equal(got, want) {
			t.Fatal(text, tips, got, want)
		}
		for _, mark := range got {
			met[mark]++
		}
	}
	for mark := range 16 {
		if met[mark] < 100 {
			t.Error(met)
		}
	}
}

// backs are how many places ahead each entry stands on, 0 of whole ones.
func backs(l []api.Entry) []int {
	var out []int
	for _, e := range l {
		out = append(out, e.Back)
	}
	return out
}

// deep are entries' depths, right or not.
func deep(l []api.Entry) []int {
	var out []int
	for at, e := range l {
		depth := 0
		if e.Kind == api.Back && e.Back > 0 {
			depth = out[at-e.Back] + 1
		}
		out = append(out, depth)
	}
	return out
}

// checkPlan holds a plan against the twin, and against the promises P12.2 to P12.4, and answers it.
func checkPlan(t *testing.T, l []api.Held, marks []int, most int) []api.Entry {
	t.Helper()
	got := island.Plan(l, marks, most)
	if want := twinPlan(l, marks, most); !slices.Equal(got, want) {
		t.Fatalf("of %d, marks %v, at most %d: %v, not %v", len(l), marks, most, backs(got), backs(want))
	}
	if len(got) == 0 {
		return got
	}
	depths := deep(got)
	for at, e := range got {
		if depths[at] > max(0, min(most, 16)) {
			t.Fatal("too deep", at, depths[at], most)
		}
		// And all that it stands on.
		for from := at; got[from].Back > 0; {
			from -= got[from].Back
			if !twinHolds(marks[from], marks[at]) || l[from].Obj.Kind != l[at].Obj.Kind {
				t.Fatal("not apart", at, from)
			}
		}
		if len(e.Data) > len(l[at].Obj.Data) || e.Back > 0 && len(e.Data) == len(l[at].Obj.Data) {
			t.Fatal("too long", at, e)
		}
	}
	checkRight(t, l, got, depths)
	return got
}

// checkRight has the entries of right objects be right, and resolved to these (P12.3).
func checkRight(t *testing.T, l []api.Held, got []api.Entry, depths []int) {
	t.Helper()
	var objs []api.Obj
	for at, h := range l {
		o := api.Obj{Kind: got[at].Kind, Data: got[at].Data}
		if back := got[at].Back; back > 0 {
			text, e := delta.Apply(l[at-back].Obj.Data, got[at].Data)
			if e != api.OK || got[at].Kind != api.Back {
				t.Fatal(at, e, got[at])
			}
			o = api.Obj{Kind: l[at-back].Obj.Kind, Data: text}
		}
		if o != h.Obj {
			t.Fatal(at, got[at])
		}
		if object.Right(o) {
			objs = append(objs, o)
		}
	}
	if len(objs) < len(l) {
		return
	}
	again, e := pack.Resolve(got, nil)
	deep, f := pack.Deep(got, nil)
	if !pack.Right(got) || e != api.OK || !slices.Equal(again, objs) || f != api.OK || !slices.Equal(deep, depths) {
		t.Fatal("not right", e, f)
	}
}

// P12.1, L2
func TestPlan(t *testing.T) {
	one, two, three := "some text that is long", "some text that is long, too", "some text that is long, too, three"
	for _, c := range []struct {
		texts []string
		marks []int
		most  int
		backs []int
	}{
		{[]string{one}, []int{1}, 4, []int{0}},
		{[]string{one, one}, []int{1, 1}, 4, []int{0, 1}},
		{[]string{one, two, three}, []int{1, 1, 1}, 4, []int{0, 1, 1}},
		{[]string{three, two, one}, []int{1, 1, 1}, 4, []int{0, 1, 1}},
		{[]string{one, two, three}, []int{0, 0, 0}, 4, []int{0, 1, 1}},
		// No deeper than most.
		{[]string{one, two, three}, []int{1, 1, 1}, 2, []int{0, 1, 1}},
		{[]string{one, two, three}, []int{1, 1, 1}, 1, []int{0, 1, 2}},
		{[]string{one, two, three}, []int{1, 1, 1}, 0, []int{0, 0, 0}},
		{[]string{one, two, three}, []int{1, 1, 1}, -1, []int{0, 0, 0}},
		{[]string{one, two, three}, []int{1, 1, 1}, math.MinInt, []int{0, 0, 0}},
		{[]string{one, two, three}, []int{1, 1, 1}, math.MaxInt, []int{0, 1, 1}},
		// A mark holds another one.
		{[]string{one, two}, []int{1, 3}, 4, []int{0, 0}},
		{[]string{one, two}, []int{3, 1}, 4, []int{0, 1}},
		{[]string{one, two}, []int{3, 2}, 4, []int{0, 1}},
		{[]string{one, two}, []int{1, 2}, 4, []int{0, 0}},
		{[]string{one, two}, []int{2, 1}, 4, []int{0, 0}},
		{[]string{one, two}, []int{6, 3}, 4, []int{0, 0}},
		{[]string{one, two}, []int{4, 3}, 4, []int{0, 0}},
		{[]string{one, two}, []int{7, 5}, 4, []int{0, 1}},
		{[]string{one, two}, []int{0, 0}, 4, []int{0, 1}},
		{[]string{one, two}, []int{0, 1}, 4, []int{0, 0}},
		{[]string{one, two}, []int{1, 0}, 4, []int{0, 1}},
		{[]string{one, two}, []int{1 << 30, 1 << 30}, 4, []int{0, 1}},
		{[]string{one, two}, []int{1<<30 - 1, 1 << 30}, 4, []int{0, 0}},
		{[]string{one, two}, []int{1<<31 - 1, 1 << 30}, 4, []int{0, 1}},
		{[]string{one, two, three}, []int{1, 3, 1}, 4, []int{0, 0, 1}},
		{[]string{one, two, three}, []int{3, 1, 2}, 4, []int{0, 1, 2}},
		{[]string{one, two, three}, []int{3, 1, 3}, 4, []int{0, 1, 2}},
		{[]string{one, two, three}, []int{1, 2, 4}, 4, []int{0, 0, 0}},
		// Any numbers are marks, by their bits.
		{[]string{one, two}, []int{-1, math.MaxInt}, 4, []int{0, 1}},
		{[]string{one, two}, []int{-1, math.MinInt}, 4, []int{0, 1}},
		{[]string{one, two}, []int{math.MaxInt, -1}, 4, []int{0, 0}},
		{[]string{one, two}, []int{math.MinInt, -1}, 4, []int{0, 0}},
		{[]string{one, two}, []int{math.MinInt, 0}, 4, []int{0, 1}},
		{[]string{one, two}, []int{-2, 1}, 4, []int{0, 0}},
		{[]string{one, two}, []int{-2, 6}, 4, []int{0, 1}},
		// The shortest, of several the last.
		{[]string{three, one, three}, []int{1, 1, 1}, 4, []int{0, 1, 2}},
		{[]string{three, one, three, three}, []int{1, 1, 1, 1}, 4, []int{0, 1, 2, 1}},
		{[]string{one, one, one, one}, []int{1, 1, 1, 1}, 4, []int{0, 1, 1, 1}},
		{[]string{one, one, one, one}, []int{1, 1, 1, 1}, 1, []int{0, 1, 2, 3}},
		{[]string{one, one, one, one, one}, []int{1, 1, 1, 1, 1}, 2, []int{0, 1, 1, 2, 3}},
		{[]string{one, one, one, one}, []int{3, 3, 2, 1}, 4, []int{0, 1, 1, 2}},
		{[]string{"0123456789", "abcdefghij", "0123456789abcdefghij"}, []int{1, 1, 1}, 4, []int{0, 0, 1}},
		{[]string{"0123456789", "abcdefghijk", "0123456789abcdefghijk"}, []int{1, 1, 1}, 4, []int{0, 0, 1}},
		{[]string{"0123456789", "abcdefghijk", "0123456789abcdefghij!"}, []int{1, 1, 1}, 4, []int{0, 0, 2}},
		{[]string{"0123456789!", "abcdefghij", "0123456789!abcdefghij"}, []int{1, 1, 1}, 4, []int{0, 0, 2}},
		// Shorter than the bytes.
		{[]string{"", ""}, []int{1, 1}, 4, []int{0, 0}},
		{[]string{one, ""}, []int{1, 1}, 4, []int{0, 0}},
		{[]string{"", one}, []int{1, 1}, 4, []int{0, 0}},
		{[]string{"abcde", "abcde"}, []int{1, 1}, 4, []int{0, 0}},
		{[]string{"abcdef", "abcdef"}, []int{1, 1}, 4, []int{0, 1}},
		{[]string{"abcdef", "xabcdef"}, []int{1, 1}, 4, []int{0, 0}},
		{[]string{"abcdefg", "xabcdefg"}, []int{1, 1}, 4, []int{0, 1}},
		{[]string{"abcdef", "ghijkl"}, []int{1, 1}, 4, []int{0, 0}},
		{[]string{strings.Repeat("x", 130) + "abcdef", "abcdef"}, []int{1, 1}, 4, []int{0, 0}},
		{[]string{strings.Repeat("x", 121) + "abcdef", "abcdef"}, []int{1, 1}, 4, []int{0, 1}},
		{[]string{strings.Repeat("x", 130) + "abcdefgh", "abcdefgh"}, []int{1, 1}, 4, []int{0, 1}},
		// One that would stand on what is too deep, or not all theirs, stands on another one.
		{[]string{one, two, three, three + "!"}, []int{1, 1, 1, 1}, 2, []int{0, 1, 1, 2}},
		{[]string{one, two, three, three + "!"}, []int{3, 3, 1, 3}, 4, []int{0, 1, 1, 2}},
		{[]string{one, two, three, three + "!"}, []int{3, 3, 1, 2}, 1, []int{0, 1, 2, 3}},
	} {
		l := blobs(c.texts...)
		if got := backs(checkPlan(t, l, c.marks, c.most)); !slices.Equal(got, c.backs) {
			t.Errorf("%q, marks %v, at most %d: %v, not %v", c.texts, c.marks, c.most, got, c.backs)
		}
	}
}

// P12.1, L2: entries as they are.
func TestEntries(t *testing.T) {
	l := blobs("abcdef", "xabcdefabcdef", "nothing else")
	want := []api.Entry{
		{Kind: api.Blob, Data: "abcdef"},
		{Kind: api.Back, Back: 1, Data: "\x06\x0d\x01x\x80\x00\x06\x80\x00\x06"},
		{Kind: api.Blob, Data: "nothing else"},
	}
	if got := checkPlan(t, l, []int{1, 1, 1}, 4); !slices.Equal(got, want) {
		t.Error(got)
	}
	want[1] = api.Entry{Kind: api.Blob, Data: "xabcdefabcdef"}
	if got := checkPlan(t, l, []int{1, 2, 1}, 4); !slices.Equal(got, want) || !slices.Equal(got, pack.Whole(l)) {
		t.Error(got)
	}
}

// P12.1, L2: one of another kind is no base, whatever the kinds are; the Ids do not count.
func TestKinds(t *testing.T) {
	long := "some text that is long"
	l := blobs(long, long, long, long)
	for _, c := range []struct {
		kinds string
		backs []int
	}{
		{"1111", []int{0, 1, 1, 1}}, {"1212", []int{0, 0, 2, 2}}, {"1234", []int{0, 0, 0, 0}}, {"1221", []int{0, 0, 1, 3}},
		{"4434", []int{0, 1, 0, 2}}, {"3333", []int{0, 1, 1, 1}}, {"2341", []int{0, 0, 0, 0}},
		// None is right.
		{"0000", []int{0, 1, 1, 1}}, {"6666", []int{0, 1, 1, 1}}, {"6767", []int{0, 0, 2, 2}}, {"5011", []int{0, 0, 0, 1}}, {"9199", []int{0, 0, 2, 1}},
	} {
		got := checkPlan(t, kinds(l, c.kinds), []int{1, 1, 1, 1}, 4)
		if !slices.Equal(backs(got), c.backs) {
			t.Errorf("%s: %v, not %v", c.kinds, backs(got), c.backs)
		}
		for at, e := range got {
			if kind := int(c.kinds[at] - '0'); e.Back == 0 && (e != api.Entry{Kind: kind, Data: long}) {
				t.Error(c.kinds, at, e)
			}
		}
		for at := range l {
			l[at].Id = c.kinds[:at%2]
		}
	}
	for _, kind := range []int{-1, math.MinInt, math.MaxInt} {
		l[1].Obj.Kind, l[3].Obj.Kind = kind, kind
		if got := backs(checkPlan(t, l, []int{1, 1, 1, 1}, 4)); !slices.Equal(got, []int{0, 0, 2, 2}) {
			t.Error(kind, got)
		}
	}
}

// P12.2: what stands best on the one ahead of it makes a chain, as deep as it may be.
func TestDepth(t *testing.T) {
	var long, texts []string
	for n := range 40 {
		long = append(long, "line "+strconv.Itoa(n))
		texts = append(texts, strings.Join(long, "\n"))
	}
	l, marks := blobs(texts...), make([]int, 40)
	for _, most := range []int{math.MinInt, -1, 0, 1, 2, 3, 4, 5, 14, 15, 16, 17, 18, 40, 1 << 40, math.MaxInt} {
		end := max(0, min(most, api.MaxChain))
		for at, depth := range deep(checkPlan(t, l, marks, most)) {
			if depth != min(at, end) {
				t.Error(most, at, depth)
			}
		}
	}
}

// P12.1, L2: what is not as many, or too many, is nothing.
func TestNone(t *testing.T) {
	l := slices.Repeat(blobs("abcdef"), 514)
	marks := make([]int, 514)
	for _, n := range []int{0, 1, 2, 3, 511, 512, 513, 514} {
		for _, k := range []int{0, 1, 2, 3, 511, 512, 513, 514} {
			want := 0
			if n == k && n <= api.MaxObjects {
				want = n
			}
			if got := checkPlan(t, l[:n], marks[:k], 4); len(got) != want {
				t.Error(n, k, len(got))
			}
		}
	}
	if got := island.Plan(nil, nil, 4); len(got) != 0 {
		t.Error(got)
	}
}

// piece is a text of parts that others have too.
func piece(r *rand.Rand, parts int) string {
	var b strings.Builder
	for range r.Intn(parts + 1) {
		b.WriteString([]string{"some text", " that is long", "abcdef", "0123456789", "x", "y", strings.Repeat("-", 120), "abcde"}[r.Intn(8)])
	}
	return b.String()
}

// someHeld are objects by chance, most of them blobs.
func someHeld(r *rand.Rand, most int) []api.Held {
	var l []api.Held
	for range r.Intn(most + 1) {
		o := api.Obj{Kind: api.Blob, Data: piece(r, 5)}
		switch r.Intn(12) {
		case 0:
			o = thing("T" + "102130"[:2*r.Intn(4)])
		case 1:
			o = thing("C" + "0123"[:1+r.Intn(4)])
		case 2:
			o = thing("G" + "0123"[r.Intn(4):][:1] + "1")
		case 3:
			if r.Intn(9) == 0 {
				o.Kind = r.Intn(9)
			}
		}
		l = append(l, api.Held{Id: object.Id(o), Obj: o})
	}
	return l
}

// P12.1 to P12.4: objects and marks by chance, against the twin, and against the promises.
func TestByChance(t *testing.T) {
	r := rand.New(rand.NewSource(2))
	times := map[int]int{}
	for n := range 6000 {
		l := someHeld(r, []int{3, 8, 30}[n%3])
		bits := []int{1, 3, 7}[r.Intn(3)]
		var marks []int
		for range l {
			marks = append(marks, r.Intn(bits+1)|r.Intn(bits+1))
		}
		if n%50 == 0 {
			marks = append(marks, 0)
		}
		got := checkPlan(t, l, marks, r.Intn(20)-1)
		for _, depth := range deep(got) {
			times[depth]++
		}
	}
	if times[0] < 1000 || times[1] < 1000 || times[2] < 1000 || times[4] < 100 || times[5] < 10 {
		t.Error(times)
	}
}

// P12.2, P12.3: forks of one history. Who comes to an object comes to all that its entry stands on; and of what one fork alone has, no other entry hangs.
func TestForks(t *testing.T) {
	objs, tips := history("A long beginning of a file.\n", []string{"one", "two", "three", "four"})
	all := [][]string{tips[3:]}
	for n := range 5 {
		more, own := history("A long beginning of a file.\none\n", []string{"of fork " + strconv.Itoa(n%4), "more of it", "and more"}, tips[n%3])
		objs, all = append(objs, more...), append(all, own[2:])
	}
	l := walk.Set(objs)
	marks := island.Marks(l, all)
	got := checkPlan(t, l, marks, 4)
	deltas := 0
	for n, row := range all {
		have, lacking := walk.Closure(l, row)
		if len(lacking) > 0 {
			t.Fatal(lacking)
		}
		for at, h := range l {
			is := slices.Contains(have, h.Id)
			if is != (marks[at]>>n&1 == 1) {
				t.Fatal(n, at)
			}
			if is && got[at].Back > 0 {
				deltas++
				if !slices.Contains(have, l[at-got[at].Back].Id) {
					t.Error("not theirs", n, at)
				}
			}
		}
		checkWithout(t, l, marks, got, 1<<n)
	}
	if deltas < 20 {
		t.Error(deltas)
	}
}

// checkWithout has all other entries be as they are, without those of one mark.
func checkWithout(t *testing.T, l []api.Held, marks []int, got []api.Entry, mark int) {
	t.Helper()
	var rest []api.Held
	var left []int
	for at, h := range l {
		if marks[at] != mark {
			rest, left = append(rest, h), append(left, marks[at])
		}
	}
	if len(rest) == len(l) {
		t.Fatal("nobody's alone", mark)
	}
	less := checkPlan(t, rest, left, 4)
	k := 0
	for at, h := range l {
		if marks[at] == mark {
			continue
		}
		a, b := got[at], less[k]
		if rest[k] != h || a.Kind != b.Kind || a.Data != b.Data || l[at-a.Back].Id != rest[k-b.Back].Id {
			t.Error("another one", mark, at, a, b)
		}
		k++
	}
}

// P1: as many objects as may be, and as long ones, in good time; many names, and many rows.
func TestMany(t *testing.T) {
	var texts []string
	for n := range api.MaxObjects {
		texts = append(texts, "number "+strconv.Itoa(n*7919%512)+" of many")
	}
	marks := make([]int, api.MaxObjects)
	checkPlan(t, blobs(texts...), marks, 4)
	for at := range marks {
		marks[at] = 1 << (at % 31)
	}
	checkPlan(t, blobs(texts...), marks, 16)
	long := slices.Repeat(blobs(strings.Repeat("x", api.MaxData)), api.MaxObjects)
	got := island.Plan(long, make([]int, api.MaxObjects), 16)
	if o, e := pack.Resolve(got, nil); e != api.OK || len(o) != api.MaxObjects || o[511] != long[511].Obj {
		t.Error(len(o), e)
	}
	const many = 1 << 14
	id := func(n int) string { s := strconv.FormatInt(int64(n), 16); return strings.Repeat("0", 64-len(s)) + s }
	var l []api.Held
	var tips [][]string
	for n := range many {
		// Each stands on the one ahead of it; the first on itself.
		l = append(l, api.Held{Id: id(n), Obj: api.Obj{Kind: api.Tag, Data: "object " + id(max(0, n-1)) + "\nkind tag\nname v\n\n"}})
		tips = append(tips, []string{id(n), id(n / 2)})
	}
	for n, mark := range island.Marks(l, tips) {
		if want := (1<<31 - 1) >> min(31, n) << min(31, n); mark != want {
			t.Fatal(n, mark)
		}
	}
}

// P3: what is handed in stays as it is, its spare room too.
func TestHandedIn(t *testing.T) {
	l := slices.Concat(world("9=C478 b=B 6=C3 8=C56 7=C46 5=T1233 4=T1011 3=T10 2=B 1=B 0=B a=G93 1=T"), blobs("abcdefg", "xabcdefg", "abcdefgabcdefg"))
	in := [][]string{names("90"), names("b796"), nil, names("c9")}
	marks := []int{7, 3, 3, 1, 1, 7, 3, 1, 7, 3, 3, 3, 1, 3, 3, 1, 9, 9}
	held, given := slices.Clone(l), slices.Clone(marks)
	for _, n := range []int{0, 3, 8, len(l)} {
		island.Marks(l[:n], in)
		island.Marks(l[:n], in[:2])
		island.Plan(l[:n], marks[:n], 4)
		island.Plan(l[:n], marks[:n], 0)
		island.Plan(l[:n], marks, 4)
	}
	if !slices.Equal(l, held) || !slices.Equal(marks, given) {
		t.Error("changed", l, marks)
	}
	if !slices.Equal(in[0], names("90")) || !slices.Equal(in[1], names("b796")) || in[2] != nil || !slices.Equal(in[3], names("c9")) {
		t.Error("changed", in)
	}
}

// P3: what comes out is nobody else's, its spare room too.
func TestComeOut(t *testing.T) {
	l := slices.Concat(world(project), blobs("abcdefg", "xabcdefg", "abcdefgabcdefg"))
	tips, marks := rows("9 6 b"), make([]int, 15)
	held, given := slices.Clone(l), slices.Clone(marks)
	for range 2 {
		out := island.Marks(l, tips)
		clear(out[:cap(out)])
		for _, most := range []int{0, 4} {
			entries := island.Plan(l, marks, most)
			clear(entries[:cap(entries)])
		}
		if !slices.Equal(l, held) || !slices.Equal(marks, given) || !slices.Equal(tips[0], names("9")) {
			t.Fatal("shared", l, marks, tips)
		}
	}
	checkPlan(t, l, marks, 4)
	checkMarks(t, world(project), rows("6 7 8"), []int{7, 2, 4, 7, 2, 4, 7, 2, 4, 0, 0, 0})
}

// P3: a call hangs on no other one, before it or beside it.
func TestAlone(t *testing.T) {
	l := world(project)
	var calls sync.WaitGroup
	for n := range 8 {
		calls.Go(func() {
			r := rand.New(rand.NewSource(int64(n)))
			for range 50 {
				tips := [][]string{names(some(r, all, 3)), names(some(r, all, 3))}
				marks := island.Marks(l, tips)
				if !slices.Equal(marks, twinMarks(l, tips)) || !slices.Equal(island.Plan(l, marks, n), twinPlan(l, marks, n)) {
					t.Error(tips)
				}
			}
		})
	}
	calls.Wait()
}
