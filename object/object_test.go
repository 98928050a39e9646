package object_test

import (
	"math"
	"reflect"
	"slices"
	"strconv"
	"strings"
	"sync"
	"testing"

	"sacristy/api"
	"sacristy/digest"
	"sacristy/object"
)

// id is the n-th of some names.
func id(n int) string { return digest.Name([]byte(strconv.Itoa(n))) }

// full is a tree of n items; part a name of n bytes.
func full(n int) []api.Item {
	var l []api.Item
	for i := range n {
		l = append(l, api.Item{Mode: api.Plain, Name: strconv.Itoa(1000 + i), Id: id(i)})
	}
	return l
}

func part(n int) string { return strings.Repeat("p", n) }

func parents(n int) []string {
	var l []string
	for i := range n {
		l = append(l, id(i))
	}
	return l
}

// notNames are texts that call no object.
func notNames() []string {
	a := id(1)
	return []string{"", "x", a[1:], a + "0", a + "\n", a[:63] + "g", a[:63] + "\n", a[:63] + " ", strings.ToUpper(a), a[:62] + "é"}
}

// notParts are texts that name no item.
func notParts() []string {
	l := []string{"", ".", "..", "/", "a/b", "/a", "a/", "a b", " a", "a ", part(71), part(1000), "é", "a\x00", "\x00", "a\n", "\t", "\x7f", "\xff"}
	for c := range 256 {
		if c < 33 || c > 126 || c == '/' {
			l = append(l, "a"+string([]byte{byte(c)})+"b")
		}
	}
	return l
}

func parts() []string {
	l := []string{"a", "...", ".a", "a.", "..a", "-", "~", "!", part(70), strings.Repeat(".", 70), `\`, "*", "A", "aux", "\""}
	for c := 33; c <= 126; c++ {
		if c != '/' {
			l = append(l, "a"+string([]byte{byte(c)}))
		}
	}
	return l
}

// badTrees are lists that are no trees.
func badTrees() [][]api.Item {
	item := func(mode int, name string) api.Item { return api.Item{Mode: mode, Name: name, Id: id(1)} }
	l := [][]api.Item{
		full(257),
		full(1000),
		{item(1, "b"), item(1, "a")},
		{item(1, "a"), item(1, "a")},
		{item(1, "a"), item(2, "a")},
		{item(3, "a"), item(3, "a")},
		{item(1, "a"), item(3, "a")},
		{item(3, "a"), item(1, "a")},
		{item(1, "a"), item(1, "a-b"), item(3, "a")}, // they rise
		{item(2, "a"), item(1, "a-b"), item(1, "a.c"), item(3, "a")}, // these too
		{item(3, "a"), item(1, "a.c")},                               // `a/` is behind `a.c`
		{item(3, "a"), item(1, "a-b")},
		{item(1, "a0"), item(3, "a")}, // and ahead of `a0`
		{item(1, "ab"), item(1, "a")},
		{item(1, "a"), item(1, "c"), item(1, "b")},
		{item(1, "a"), item(1, "b"), {Mode: 1, Name: "c", Id: "x"}},
		{item(1, "a"), item(0, "b"), item(1, "c")},
		{item(1, "a"), item(1, "b"), item(1, "a")},
		slices.Concat(full(255), []api.Item{item(1, "z"), item(1, "zz")}),
		{{}},
		{item(1, "a"), {}},
	}
	for _, mode := range []int{0, 4, -1, 5, 9, 10, 11, 1 + 256, 1 - 256, math.MaxInt, math.MinInt, '1'} {
		l = append(l, []api.Item{item(mode, "a")})
	}
	for _, s := range notParts() {
		l = append(l, []api.Item{item(1, s)}, []api.Item{item(3, s)})
	}
	for _, s := range notNames() {
		l = append(l, []api.Item{{Mode: 1, Name: "a", Id: s}})
	}
	return l
}

func goodTrees() [][]api.Item {
	item := func(mode int, name string) api.Item { return api.Item{Mode: mode, Name: name, Id: id(mode)} }
	l := [][]api.Item{
		nil,
		{},
		{item(1, "a")},
		{item(2, "a")},
		{item(3, "a")},
		{item(2, "a-b"), item(1, "a.c"), item(3, "a")},
		{item(1, "a"), item(3, "a.c"), item(1, "ab")},
		{item(3, "a"), item(1, "a0")},
		{item(3, "a"), item(3, "ab"), item(3, "b")},
		{item(3, "a-b"), item(3, "a")}, // `a-b/` is ahead of `a/`
		{item(1, "A"), item(1, "a")},
		{item(1, "a"), item(1, "aa"), item(1, "aaa")},
		{item(1, "a"), item(2, "b"), item(3, "c")}, // of one object may be more
		{{Mode: 1, Name: "a", Id: id(7)}, {Mode: 3, Name: "b", Id: id(7)}},
		{{Mode: 1, Name: "a", Id: strings.Repeat("0", 64)}},
		full(255),
		full(256),
	}
	for _, s := range parts() {
		l = append(l, []api.Item{item(1, s)}, []api.Item{item(3, s)})
	}
	return l
}

func badChanges() []api.Change {
	l := []api.Change{
		{},
		{Who: "w"},
		{Tree: id(1), Parents: parents(9)},
		{Tree: id(1), Parents: parents(300)},
		{Tree: id(1), Parents: make([]string, 1)},
		{Tree: id(1), Parents: []string{id(2), id(2)}},
		{Tree: id(1), Parents: []string{id(2), id(3), id(2)}},
		{Tree: id(1), Parents: append(parents(7), id(0))},
		{Tree: id(1), Who: part(101)},
		{Tree: id(1), Who: strings.Repeat(" ", 101)},
	}
	for _, s := range notNames() {
		l = append(l, api.Change{Tree: s, Who: "w"}, api.Change{Tree: id(1), Parents: []string{s}}, api.Change{Tree: id(1), Parents: []string{id(1), s}}, api.Change{Tree: id(1), Parents: []string{s, id(1)}})
	}
	for c := range 256 {
		if c < 32 || c > 126 {
			b := string([]byte{byte(c)})
			l = append(l, api.Change{Tree: id(1), Who: b}, api.Change{Tree: id(1), Who: "a" + b + "b"}, api.Change{Tree: id(1), Who: part(99) + b})
		}
	}
	return l
}

func goodChanges() []api.Change {
	l := []api.Change{
		{Tree: id(1)},
		{Tree: id(1), Parents: []string{}},
		{Tree: id(1), Parents: []string{id(1)}, Who: "w", Text: "\nt"}, // a parent may be called as the tree is
		{Tree: id(1), Parents: parents(8), Who: "w"},
		{Tree: id(1), Parents: []string{id(3), id(1), id(2)}}, // in any order
		{Tree: id(1), Who: part(100)},
		{Tree: id(1), Who: strings.Repeat(" ", 100)},
		{Tree: id(1), Who: "who me\\n"},
		{Tree: id(1), Who: "parent " + id(2)},
		{Tree: id(1), Text: "who w\n\nparent " + id(2) + "\n"},
		{Tree: id(1), Text: "\x00\xff\xfeé\r\n"},
		{Tree: id(1), Text: strings.Repeat("t", 1<<17)},
	}
	for c := 32; c <= 126; c++ {
		l = append(l, api.Change{Tree: id(2), Who: string([]byte{byte(c)}), Text: string([]byte{byte(c)})})
	}
	return l
}

func badLabels() []api.Label {
	l := []api.Label{{}, {Id: id(1), Name: "v"}, {Id: id(1), Kind: 1}, {Kind: 1, Name: "v"}}
	for _, kind := range []int{0, -1, 5, 6, 7, 257, math.MaxInt, math.MinInt} {
		l = append(l, api.Label{Id: id(1), Kind: kind, Name: "v"})
	}
	for _, s := range notNames() {
		l = append(l, api.Label{Id: s, Kind: 1, Name: "v"})
	}
	for _, s := range notParts() {
		l = append(l, api.Label{Id: id(1), Kind: 3, Name: s, Text: "t"})
	}
	return l
}

func goodLabels() []api.Label {
	var l []api.Label
	for kind := 1; kind <= 4; kind++ {
		l = append(l, api.Label{Id: id(kind), Kind: kind, Name: "v"}, api.Label{Id: id(kind), Kind: kind, Name: "v1.0", Text: "\n\x00t\xff\n"})
	}
	for _, s := range parts() {
		l = append(l, api.Label{Id: id(1), Kind: 3, Name: s, Text: s})
	}
	return append(l, api.Label{Id: id(1), Kind: 4, Name: "v", Text: strings.Repeat("t", 1<<17)})
}

// P4.1, D1: the bytes, to the letter.
func TestBytes(t *testing.T) {
	a, b := id(1), id(2)
	check := func(got string, is bool, want string) {
		t.Helper()
		if got != want || !is {
			t.Errorf("%q %v, not %q", got, is, want)
		}
	}
	s, is := object.PutTree(nil)
	check(s, is, "")
	s, is = object.PutTree([]api.Item{{Mode: 2, Name: "a-b", Id: a}, {Mode: 1, Name: "a.c", Id: b}, {Mode: 3, Name: "a", Id: a}})
	check(s, is, "2 a-b\x00"+a+"1 a.c\x00"+b+"3 a\x00"+a)
	s, is = object.PutChange(api.Change{Tree: a})
	check(s, is, "tree "+a+"\nwho \n\n")
	s, is = object.PutChange(api.Change{Tree: a, Parents: []string{b, a}, Who: "me <me@x>", Text: "\nwhy\n"})
	check(s, is, "tree "+a+"\nparent "+b+"\nparent "+a+"\nwho me <me@x>\n\n\nwhy\n")
	s, is = object.PutLabel(api.Label{Id: a, Kind: 1, Name: "v"})
	check(s, is, "object "+a+"\nkind blob\nname v\n\n")
	for kind, w := range kinds[1:] {
		s, is = object.PutLabel(api.Label{Id: b, Kind: kind + 1, Name: "v~1", Text: "t\x00"})
		check(s, is, "object "+b+"\nkind "+w+"\nname v~1\n\nt\x00")
	}
}

// same tells whether two are one, an empty list being as good as none.
func same(a, b any) bool {
	if reflect.DeepEqual(a, b) {
		return true
	}
	switch x := a.(type) {
	case []api.Item:
		return len(x) == 0 && len(b.([]api.Item)) == 0
	case []api.Want:
		return len(x) == 0 && len(b.([]api.Want)) == 0
	case api.Change:
		y := b.(api.Change)
		return len(x.Parents) == 0 && len(y.Parents) == 0 && x.Tree == y.Tree && x.Who == y.Who && x.Text == y.Text
	}
	return false
}

// checkThereAndBack puts what is right, and gets it again, and finds that what is wrong is not put.
func checkThereAndBack[T any](t *testing.T, put func(T) (string, bool), get func(string) (T, bool), good []T, bad []T) {
	t.Helper()
	for i, v := range good {
		s, is := put(v)
		if !is {
			t.Errorf("%d is not put: %.300v", i, v)
			continue
		}
		if back, was := get(s); !was || !same(back, v) {
			t.Errorf("%d is put as %.300q, and got as %.300v", i, s, back)
		}
	}
	for i, v := range bad {
		if s, is := put(v); is || s != "" {
			t.Errorf("wrong %d is put as %.300q", i, s)
		}
	}
}

// P4.1, P4.2
func TestThereAndBack(t *testing.T) {
	checkThereAndBack(t, object.PutTree, object.GetTree, goodTrees(), badTrees())
	checkThereAndBack(t, object.PutChange, object.GetChange, goodChanges(), badChanges())
	checkThereAndBack(t, object.PutLabel, object.GetLabel, goodLabels(), badLabels())
}

// raw are the bytes that the wrong ones would have: some are those of another one, which is right.
func raw() []string {
	var l []string
	for _, tree := range badTrees() {
		var b strings.Builder
		for _, it := range tree {
			b.WriteString(strconv.Itoa(it.Mode) + " " + it.Name + "\x00" + it.Id)
		}
		l = append(l, b.String())
	}
	for _, c := range badChanges() {
		var b strings.Builder
		for _, p := range c.Parents {
			b.WriteString("parent " + p + "\n")
		}
		l = append(l, "tree "+c.Tree+"\n"+b.String()+"who "+c.Who+"\n\n"+c.Text)
	}
	for _, b := range badLabels() {
		word := "x"
		if 0 <= b.Kind && b.Kind <= 4 {
			word = kinds[b.Kind]
		}
		l = append(l, "object "+b.Id+"\nkind "+word+"\nname "+b.Name+"\n\n"+b.Text)
	}
	return l
}

// forms are texts near to the forms.
func forms() []string {
	a, b := id(1), id(2)
	tree, who := "tree "+a+"\n", "who w\n"
	object := "object " + a + "\n"
	return []string{
		"x", "\x00", "\n", "1", "1 ", "1 a", "1 a\x00", "1 a\x00" + a[1:], "1 a\x00" + a + "1", "1 a\x00" + a + "\n",
		"1a\x00" + a, "1  a\x00" + a, "01 a\x00" + a, "+1 a\x00" + a, "100644 a\x00" + a, "a a\x00" + a, "\x01 a\x00" + a, "1\ta\x00" + a, "1 a\n" + a, "1 a\x00\x00" + a,
		"", tree, tree + who, tree + "who w", tree + "who w\n\n", tree + "who w\n\n\n", tree + "\n" + who + "\n",
		"Tree " + a + "\n" + who + "\n", "tree  " + a + "\n" + who + "\n", "tree " + a + " \n" + who + "\n", "tree " + a + who + "\n", "tree\n" + who + "\n",
		tree + tree + who + "\n", tree + who + who + "\n", tree + who + "parent " + b + "\n\n", "parent " + b + "\n" + tree + who + "\n",
		tree + "parent " + b + who + "\n", tree + "parent " + b + "\n", tree + "parent " + b, tree + "parent \n" + who + "\n", tree + "parent" + b + "\n" + who + "\n",
		tree + "parent " + b + " " + a + "\n" + who + "\n", tree + "parent " + b + "\nparent " + b + "\n" + who + "\n", tree + "parents " + b + "\n" + who + "\n",
		tree + "who w\r\n\r\n", tree + "who\n\n", tree + "who \n\n", tree + "whom w\n\n", tree + "who w\ntext", tree + "who w\n text\n\n",
		object, object + "kind tag\n", object + "kind tag\nname v\n", object + "kind tag\nname v\n\n", object + "kind tag\nname v\ntext", object + "kind tag\n\nname v\n\n",
		object + "kind 4\nname v\n\n", object + "kind Tag\nname v\n\n", object + "kind \nname v\n\n", object + "kind tag \nname v\n\n", object + "kind tags\nname v\n\n", object + "kind tree tag\nname v\n\n",
		object + "name v\nkind tag\n\n", "kind tag\n" + object + "name v\n\n", object + "kind tag\nname \n\n", object + "kind tag\nname v", "object " + b + a + "\nkind tag\nname v\n\n",
	}
}

// checkGet holds all that the calls answer of a text against the twins.
func checkGet(t *testing.T, s string) {
	t.Helper()
	items, is := object.GetTree(s)
	if want, was := twinTree(s); is != was || !same(items, want) {
		t.Fatalf("tree of %q: %v %v, not %v %v", s, items, is, want, was)
	}
	if back, was := object.PutTree(items); is && (back != s || !was) {
		t.Fatalf("tree of %q is put as %q", s, back)
	}
	change, is := object.GetChange(s)
	if want, was := twinChange(s); is != was || !same(change, want) {
		t.Fatalf("commit of %q: %v %v, not %v %v", s, change, is, want, was)
	}
	if back, was := object.PutChange(change); is && (back != s || !was) {
		t.Fatalf("commit of %q is put as %q", s, back)
	}
	label, is := object.GetLabel(s)
	if want, was := twinLabel(s); is != was || label != want {
		t.Fatalf("tag of %q: %v %v, not %v %v", s, label, is, want, was)
	}
	if back, was := object.PutLabel(label); is && (back != s || !was) {
		t.Fatalf("tag of %q is put as %q", s, back)
	}
	for kind := -1; kind <= 8; kind++ {
		checkObject(t, api.Obj{Kind: kind, Data: s})
	}
}

func checkObject(t *testing.T, o api.Obj) {
	t.Helper()
	wants, is := twinWants(o)
	if got := object.Right(o); got != is {
		t.Fatalf("Right of %d %q: %v", o.Kind, o.Data, got)
	}
	if got := object.Wants(o); !same(got, wants) {
		t.Fatalf("Wants of %d %q: %v, not %v", o.Kind, o.Data, got, wants)
	}
	if got, want := object.Id(o), twinId(o); got != want {
		t.Fatalf("Id of %d %q: %s, not %s", o.Kind, o.Data, got, want)
	}
}

// P4.1, P4.2
func TestGet(t *testing.T) {
	for _, s := range slices.Concat(raw(), forms()) {
		checkGet(t, s)
	}
}

// seeds are the bytes of a few small objects.
func seeds() []string {
	tree, _ := object.PutTree([]api.Item{{Mode: 2, Name: "a-b", Id: id(1)}, {Mode: 1, Name: "a.c", Id: id(2)}, {Mode: 3, Name: "a", Id: id(1)}})
	one, _ := object.PutTree([]api.Item{{Mode: 1, Name: "aux", Id: id(1)}})
	root, _ := object.PutChange(api.Change{Tree: id(1)})
	merge, _ := object.PutChange(api.Change{Tree: id(1), Parents: []string{id(2), id(3)}, Who: "me", Text: "\nwhy"})
	tag, _ := object.PutLabel(api.Label{Id: id(1), Kind: api.Commit, Name: "v1", Text: "x\n"})
	return []string{tree, one, root, merge, tag}
}

// P4.1, P4.2: each seed with each byte changed, left out, put in, and with its end, its beginning or two pieces cut and changed about.
func TestGetNear(t *testing.T) {
	edges := []byte{0, 1, '\n', '\r', ' ', '!', '.', '/', '0', '1', '2', '3', '4', '9', 'A', 'F', 'a', 'f', 'g', 't', '~', 127, 128, 255}
	for _, s := range seeds() {
		checkGet(t, s)
		checkGet(t, s+s)
		for at := range len(s) {
			checkGet(t, s[:at])
			checkGet(t, s[at:])
			checkGet(t, s[:at]+s[at+1:])
			checkGet(t, s[at:]+s[:at])
			checkGet(t, s[:at]+s)
			for _, c := range edges {
				checkGet(t, s[:at]+string([]byte{c})+s[at+1:])
				checkGet(t, s[:at]+string([]byte{c})+s[at:])
			}
		}
		for _, other := range seeds() {
			for at := 0; at <= len(s); at += 7 {
				for to := 0; to <= len(other); to += 11 {
					checkGet(t, s[:at]+other[to:])
				}
			}
		}
	}
}

// P4.1, D2
func TestRight(t *testing.T) {
	data := strings.Repeat("\x00", api.MaxData)
	commit, _ := object.PutChange(api.Change{Tree: id(1)})
	tag, _ := object.PutLabel(api.Label{Id: id(1), Kind: 1, Name: "v"})
	tree, _ := object.PutTree(full(256))
	for i, c := range []struct {
		o    api.Obj
		want bool
	}{
		{api.Obj{}, false},
		{api.Obj{Kind: api.Blob}, true},
		{api.Obj{Kind: api.Tree}, true},
		{api.Obj{Kind: api.Commit}, false},
		{api.Obj{Kind: api.Tag}, false},
		{api.Obj{Kind: 5}, false},
		{api.Obj{Kind: api.Back}, false},
		{api.Obj{Kind: api.Base}, false},
		{api.Obj{Kind: -1}, false},
		{api.Obj{Kind: math.MinInt}, false},
		{api.Obj{Kind: math.MaxInt, Data: "x"}, false},
		{api.Obj{Kind: api.Blob, Data: data}, true},
		{api.Obj{Kind: api.Blob, Data: data + "x"}, false},
		{api.Obj{Kind: 0, Data: data}, false},
		{api.Obj{Kind: api.Tree, Data: data}, false},
		{api.Obj{Kind: api.Tree, Data: tree}, true},
		{api.Obj{Kind: api.Commit, Data: tree}, false},
		{api.Obj{Kind: api.Blob, Data: commit}, true},
		{api.Obj{Kind: api.Tree, Data: commit}, false},
		{api.Obj{Kind: api.Commit, Data: commit}, true},
		{api.Obj{Kind: api.Tag, Data: commit}, false},
		{api.Obj{Kind: api.Commit, Data: commit + data[len(commit):]}, true},
		{api.Obj{Kind: api.Commit, Data: commit + data[len(commit)-1:]}, false},
		{api.Obj{Kind: api.Tag, Data: tag}, true},
		{api.Obj{Kind: api.Commit, Data: tag}, false},
		{api.Obj{Kind: api.Tag, Data: tag + data[len(tag):]}, true},
		{api.Obj{Kind: api.Tag, Data: tag + data[len(tag)-1:]}, false},
	} {
		if got := object.Right(c.o); got != c.want {
			t.Errorf("%d: %v", i, got)
		}
		if named := object.Id(c.o) != ""; named != c.want {
			t.Errorf("%d: Id %v", i, named)
		}
		if !c.want && len(object.Wants(c.o)) != 0 {
			t.Errorf("%d: %v", i, object.Wants(c.o))
		}
		checkObject(t, c.o)
	}
}

// P4.1, D2
func TestWants(t *testing.T) {
	a, b, c := id(1), id(2), id(3)
	tree, _ := object.PutTree([]api.Item{{Mode: 2, Name: "a-b", Id: a}, {Mode: 1, Name: "a.c", Id: b}, {Mode: 3, Name: "a", Id: c}, {Mode: 1, Name: "b", Id: a}})
	commit, _ := object.PutChange(api.Change{Tree: a, Parents: []string{c, a, b}, Who: "w", Text: "parent " + b})
	check := func(o api.Obj, want ...api.Want) {
		t.Helper()
		if got := object.Wants(o); !slices.Equal(got, want) {
			t.Errorf("%v, not %v", got, want)
		}
	}
	check(api.Obj{Kind: api.Tree, Data: tree}, api.Want{Id: a, Kind: 1}, api.Want{Id: b, Kind: 1}, api.Want{Id: c, Kind: 2}, api.Want{Id: a, Kind: 1})
	check(api.Obj{Kind: api.Commit, Data: commit}, api.Want{Id: a, Kind: 2}, api.Want{Id: c, Kind: 3}, api.Want{Id: a, Kind: 3}, api.Want{Id: b, Kind: 3})
	for kind := 1; kind <= 4; kind++ {
		tag, _ := object.PutLabel(api.Label{Id: b, Kind: kind, Name: "v"})
		check(api.Obj{Kind: api.Tag, Data: tag}, api.Want{Id: b, Kind: kind})
	}
	for _, data := range []string{"", "x", tree, commit} {
		check(api.Obj{Kind: api.Blob, Data: data})
		check(api.Obj{Kind: 5, Data: data})
	}
	check(api.Obj{Kind: api.Tree})
	check(api.Obj{Kind: api.Tree, Data: commit})
	check(api.Obj{Kind: api.Commit, Data: tree})
	check(api.Obj{Kind: api.Tag, Data: commit})
}

// P4.3
func TestId(t *testing.T) {
	for _, c := range []struct {
		o    api.Obj
		text string
	}{
		{api.Obj{Kind: api.Blob}, "blob 0\n"},
		{api.Obj{Kind: api.Blob, Data: "abc\n"}, "blob 4\nabc\n"},
		{api.Obj{Kind: api.Blob, Data: strings.Repeat("é", 50)}, "blob 100\n" + strings.Repeat("é", 50)},
		{api.Obj{Kind: api.Blob, Data: strings.Repeat("z", 65536)}, "blob 65536\n" + strings.Repeat("z", 65536)},
		{api.Obj{Kind: api.Tree}, "tree 0\n"},
		{api.Obj{Kind: api.Tree, Data: "1 a\x00" + id(1)}, "tree 68\n1 a\x00" + id(1)},
		{api.Obj{Kind: api.Commit, Data: "tree " + id(1) + "\nwho \n\n"}, "commit 76\ntree " + id(1) + "\nwho \n\n"},
		{api.Obj{Kind: api.Tag, Data: "object " + id(1) + "\nkind tag\nname v\n\n"}, "tag 89\nobject " + id(1) + "\nkind tag\nname v\n\n"},
	} {
		got := object.Id(c.o)
		if got != digest.Name([]byte(c.text)) || !digest.Named(got) {
			t.Errorf("%d %.100q: %q", c.o.Kind, c.o.Data, got)
		}
	}
	if object.Id(api.Obj{Kind: api.Blob}) != "e769af2e03f5226ab4af05db1842e4ea0d40468fd5a5d6875aaf35529cc8809d" {
		t.Error(object.Id(api.Obj{Kind: api.Blob}))
	}
}

// P4.3: no two right objects have one name.
func TestIdApart(t *testing.T) {
	met := map[string]api.Obj{}
	add := func(o api.Obj) {
		name := object.Id(o)
		if name == "" {
			t.Fatal(o)
		}
		if other, there := met[name]; there && other != o {
			t.Fatal(o, other)
		}
		met[name] = o
	}
	for i, s := range seeds() {
		add(api.Obj{Kind: api.Blob, Data: s})
		add(api.Obj{Kind: []int{2, 2, 3, 3, 4}[i], Data: s})
	}
	for n := range 300 {
		add(api.Obj{Kind: api.Blob, Data: strings.Repeat("0", n)})
		add(api.Obj{Kind: api.Blob, Data: "blob " + strconv.Itoa(n) + "\n"})
	}
	add(api.Obj{Kind: api.Tree})
}

// P3: what is handed in stays as it is, and what comes out is nobody else's.
func TestHandedIn(t *testing.T) {
	items := full(5)
	room := items[:3:4]
	room[0], room[1] = items[1], items[0] // wrong ones are not set right
	want := slices.Clone(items)
	object.PutTree(room)
	object.PutTree(room[1:2])
	if !slices.Equal(items, want) {
		t.Error(items)
	}
	ids := []string{id(3), id(1), id(2), id(4)}
	kept := slices.Clone(ids)
	object.PutChange(api.Change{Tree: id(1), Parents: ids[:3]})
	if !slices.Equal(ids, kept) {
		t.Error(ids)
	}
	s := seeds()
	first, _ := object.GetTree(s[0])
	second, _ := object.GetTree(s[0])
	first[0] = api.Item{}
	_ = append(first, api.Item{})
	if second[0].Name != "a-b" {
		t.Error(second)
	}
	one, _ := object.GetChange(s[3])
	other, _ := object.GetChange(s[3])
	one.Parents[0] = ""
	if other.Parents[0] != id(2) {
		t.Error(other)
	}
	wants := object.Wants(api.Obj{Kind: api.Tree, Data: s[0]})
	wants[0] = api.Want{}
	if again := object.Wants(api.Obj{Kind: api.Tree, Data: s[0]}); again[0].Id != id(1) {
		t.Error(again)
	}
}

// P1: long and wrong texts end in good time.
func TestLong(t *testing.T) {
	const many = 1 << 20
	for _, s := range []string{
		strings.Repeat("1", many),
		"1 " + strings.Repeat("a", many),
		strings.Repeat("1 a\x00"+id(1), many/64),
		"tree " + strings.Repeat("a", many),
		"tree " + id(1) + "\n" + strings.Repeat("parent "+id(1)+"\n", many/64),
		"tree " + id(1) + "\nwho " + strings.Repeat("w", many) + "\n\n",
		"object " + id(1) + "\nkind " + strings.Repeat("tag", many/4),
		"object " + id(1) + "\nkind tag\nname " + strings.Repeat("v", many) + "\n\n",
	} {
		_, tree := object.GetTree(s)
		_, change := object.GetChange(s)
		_, label := object.GetLabel(s)
		if tree || change || label {
			t.Errorf("%.100q", s)
		}
		for kind := 1; kind <= 4; kind++ {
			if object.Right(api.Obj{Kind: kind, Data: s}) {
				t.Errorf("%d %.100q", kind, s)
			}
		}
	}
	if _, is := object.PutTree(make([]api.Item, many)); is {
		t.Error("tree")
	}
	if _, is := object.PutChange(api.Change{Tree: id(1), Parents: make([]string, many)}); is {
		t.Error("commit")
	}
}

// P3: a call hangs on no other one, before it or beside it.
func TestAlone(t *testing.T) {
	var all sync.WaitGroup
	for n := range 8 {
		all.Go(func() {
			for range 20 {
				for i, s := range seeds() {
					o := api.Obj{Kind: 1 + (n+i)%4, Data: s}
					if object.Id(o) != twinId(o) {
						t.Error(o)
					}
				}
			}
		})
	}
	all.Wait()
}
