package pack_test

import (
	"bytes"
	"math"
	"slices"
	"strings"
	"testing"

	"sacristy/api"
	"sacristy/delta"
	"sacristy/object"
	"sacristy/pack"
)

func blob(s string) api.Entry { return api.Entry{Kind: api.Blob, Data: s} }

func thing(s string) api.Obj { return api.Obj{Kind: api.Blob, Data: s} }

func id(s string) string { return object.Id(thing(s)) }

// back is a delta of an entry that has the first text; on is one of the blob of it.
func back(n int, base, text string) api.Entry {
	return api.Entry{Kind: api.Back, Back: n, Data: delta.Make(base, text)}
}

func on(base, text string) api.Entry {
	return api.Entry{Kind: api.Base, Base: id(base), Data: delta.Make(base, text)}
}

// checkEntries holds all that is answered of entries against the twins.
func checkEntries(t *testing.T, l []api.Entry, have []api.Held) api.Errno {
	t.Helper()
	if got := pack.Right(l); got != twinRight(l) {
		t.Fatalf("Right of %.300v: %v", l, got)
	}
	b, e := pack.Put(l)
	if want, no := twinPut(l); !bytes.Equal(b, want) || e != no {
		t.Fatalf("Put of %.300v: %.300q %v, not %.300q %v", l, b, e, want, no)
	}
	if e == api.OK {
		if again, e := pack.Get(b); !slices.Equal(again, l) || e != api.OK {
			t.Fatalf("Get of %.300q: %.300v %v", b, again, e)
		}
	}
	objs, e := pack.Resolve(l, have)
	deep, f := pack.Deep(l, have)
	wantObjs, wantDeep, no := twinResolve(l, have)
	if !slices.Equal(objs, wantObjs) || !slices.Equal(deep, wantDeep) || e != no || f != no {
		t.Fatalf("%.900v with %.300v: %.300v %v %v %v, not %.300v %v %v", l, have, objs, e, deep, f, wantObjs, wantDeep, no)
	}
	return e
}

func checkBytes(t *testing.T, b []byte) api.Errno {
	t.Helper()
	l, e := pack.Get(b)
	if want, no := twinGet(b); !slices.Equal(l, want) || e != no {
		t.Fatalf("Get of %.300q: %.300v %v, not %.300v %v", b, l, e, want, no)
	}
	return e
}

// P7.1, G1: the bytes, to the letter.
func TestPut(t *testing.T) {
	name := strings.Repeat("0123456789abcdef", 4)
	long := strings.Repeat("x", 300)
	for _, c := range []struct {
		l    []api.Entry
		want string
	}{
		{nil, "PAKS\x00"},
		{[]api.Entry{blob("")}, "PAKS\x01\x01\x00"},
		{[]api.Entry{blob("abc")}, "PAKS\x01\x01\x03abc"},
		{[]api.Entry{{Kind: api.Tree}, {Kind: api.Commit}, {Kind: api.Tag}}, "PAKS\x03\x02\x00\x03\x00\x04\x00"},
		{[]api.Entry{{Kind: api.Commit, Data: "no commit"}}, "PAKS\x01\x03\x09no commit"},
		{[]api.Entry{blob("a"), {Kind: api.Back, Back: 1}}, "PAKS\x02\x01\x01a\x06\x00\x01"},
		{[]api.Entry{blob("a"), blob("b"), {Kind: api.Back, Back: 2, Data: "\x00\xff"}}, "PAKS\x03\x01\x01a\x01\x01b\x06\x02\x02\x00\xff"},
		{[]api.Entry{{Kind: api.Base, Base: name}}, "PAKS\x01\x07\x00" + name},
		{[]api.Entry{{Kind: api.Base, Base: name, Data: "d"}, {Kind: api.Back, Back: 1, Data: "e"}}, "PAKS\x02\x07\x01" + name + "d\x06\x01\x01e"},
		{[]api.Entry{blob(long[:127]), blob(long[:128]), blob(long)}, "PAKS\x03\x01\x7f" + long[:127] + "\x01\x80\x01" + long[:128] + "\x01\xac\x02" + long},
		{slices.Repeat([]api.Entry{blob("")}, 127), "PAKS\x7f" + strings.Repeat("\x01\x00", 127)},
		{slices.Repeat([]api.Entry{blob("")}, 128), "PAKS\x80\x01" + strings.Repeat("\x01\x00", 128)},
		{slices.Repeat([]api.Entry{blob("")}, 512), "PAKS\x80\x04" + strings.Repeat("\x01\x00", 512)},
		{append(slices.Repeat([]api.Entry{blob("")}, 300), api.Entry{Kind: api.Back, Back: 300}), "PAKS\xad\x02" + strings.Repeat("\x01\x00", 300) + "\x06\x00\xac\x02"},
	} {
		b, e := pack.Put(c.l)
		if e != api.OK || !bytes.Equal(b, sealed(c.want)) {
			t.Errorf("%.99v: %.99q %v", c.l, b, e)
		}
		checkEntries(t, c.l, nil)
		checkBytes(t, sealed(c.want))
	}
}

// P7.1, G1: which entries are right; G2: what is not is refused.
func TestRight(t *testing.T) {
	name := strings.Repeat("a", 64)
	long := strings.Repeat("x", api.MaxData+1)
	one := []api.Entry{blob("")}
	for i, c := range []struct {
		ahead []api.Entry
		e     api.Entry
		is    bool
	}{
		{nil, api.Entry{}, false},
		{nil, api.Entry{Kind: 1}, true}, {nil, api.Entry{Kind: 2}, true}, {nil, api.Entry{Kind: 3}, true}, {nil, api.Entry{Kind: 4}, true},
		{nil, api.Entry{Kind: 5}, false}, {nil, api.Entry{Kind: 8}, false}, {nil, api.Entry{Kind: -1}, false}, {nil, api.Entry{Kind: 257}, false},
		{one, api.Entry{Kind: 256 + 6, Back: 1}, false}, {nil, api.Entry{Kind: math.MinInt}, false}, {nil, api.Entry{Kind: math.MaxInt}, false},
		{one, api.Entry{Kind: 1, Back: 1}, false}, {one, api.Entry{Kind: 4, Back: -1}, false},
		{one, api.Entry{Kind: 1, Base: name}, false}, {one, api.Entry{Kind: 2, Base: "x"}, false},
		{nil, api.Entry{Kind: 1, Data: long}, false}, {nil, api.Entry{Kind: 1, Data: long[1:]}, true},
		{nil, api.Entry{Kind: 6}, false}, {nil, api.Entry{Kind: 6, Back: 1}, false}, {one, api.Entry{Kind: 6}, false},
		{one, api.Entry{Kind: 6, Back: 1}, true}, {one, api.Entry{Kind: 6, Back: 2}, false}, {one, api.Entry{Kind: 6, Back: -1}, false},
		{one, api.Entry{Kind: 6, Back: math.MaxInt}, false}, {one, api.Entry{Kind: 6, Back: math.MinInt}, false},
		{one, api.Entry{Kind: 6, Back: 1, Base: name}, false}, {one, api.Entry{Kind: 6, Back: 1, Base: "x"}, false},
		{one, api.Entry{Kind: 6, Back: 1, Data: long}, false}, {one, api.Entry{Kind: 6, Back: 1, Data: long[1:]}, true},
		{slices.Repeat(one, 5), api.Entry{Kind: 6, Back: 5}, true}, {slices.Repeat(one, 5), api.Entry{Kind: 6, Back: 6}, false},
		{nil, api.Entry{Kind: 7, Base: name}, true}, {nil, api.Entry{Kind: 7}, false}, {one, api.Entry{Kind: 7, Back: 1, Base: name}, false},
		{nil, api.Entry{Kind: 7, Back: -1, Base: name}, false},
		{nil, api.Entry{Kind: 7, Base: name[1:]}, false}, {nil, api.Entry{Kind: 7, Base: name + "a"}, false},
		{nil, api.Entry{Kind: 7, Base: name[1:] + "g"}, false}, {nil, api.Entry{Kind: 7, Base: "A" + name[1:]}, false},
		{nil, api.Entry{Kind: 7, Base: name, Data: long}, false}, {nil, api.Entry{Kind: 7, Base: name, Data: long[1:]}, true},
		{slices.Repeat(one, 511), blob(""), true}, {slices.Repeat(one, 512), blob(""), false}, {slices.Repeat(one, 10000), blob(""), false},
	} {
		for _, l := range [][]api.Entry{append(slices.Clone(c.ahead), c.e), slices.Concat(c.ahead, []api.Entry{c.e}, one)} {
			is := c.is && len(l) <= 512
			if pack.Right(l) != is {
				t.Errorf("%d: %.99v", i, l)
			}
			if b, e := pack.Put(l); !is && (b != nil || e != api.ErrArg) {
				t.Errorf("%d: Put %.99q %v", i, b, e)
			}
			o, e := pack.Resolve(l, nil)
			d, f := pack.Deep(l, nil)
			if !is && (o != nil || d != nil || e != api.ErrArg || f != api.ErrArg) {
				t.Errorf("%d: %.99v %v %v %v", i, o, e, d, f)
			}
			checkEntries(t, l, nil)
		}
	}
	if !pack.Right(nil) || !pack.Right([]api.Entry{}) {
		t.Error("none are right")
	}
}

// P7.1, G1: as many bytes as a file may have, and one more.
func TestPutMany(t *testing.T) {
	text := strings.Repeat("x", api.MaxData)
	// PAKS, a number, a kind and a length of each of four, a sum
	most := []api.Entry{blob(text), blob(text), blob(text), blob(text[:api.MaxData-32-5-4*4])}
	b, e := pack.Put(most)
	if len(b) != api.MaxFile || e != api.OK {
		t.Fatal(len(b), e)
	}
	if l, e := pack.Get(b); !slices.Equal(l, most) || e != api.OK {
		t.Error(len(l), e)
	}
	checkEntries(t, most, nil)
	more := slices.Clone(most)
	more[1].Kind = api.Tag
	more[3].Data += "x"
	for _, l := range [][]api.Entry{more, append(slices.Clone(most), blob("")), slices.Repeat(most[:1], 5), slices.Repeat(most[:1], 512)} {
		if b, e := pack.Put(l); b != nil || e != api.ErrTooMany {
			t.Error(len(l), len(b), e)
		}
		l = append(slices.Clone(l), api.Entry{Kind: 5})
		if b, e := pack.Put(l); b != nil || e != api.ErrArg {
			t.Error(len(l), len(b), e)
		}
	}
	// Bytes of right entries, but too many.
	if b := twinBytes(more); len(b) != api.MaxFile+1 || checkBytes(t, b) != api.ErrCorrupt {
		t.Error(len(b))
	}
	if l, e := pack.Get(twinBytes(slices.Repeat(most[:1], 512))); l != nil || e != api.ErrCorrupt {
		t.Error(len(l), e)
	}
}

// P7.1, G1: bytes that are none of entries, though their sum holds.
func TestGetNone(t *testing.T) {
	name := strings.Repeat("a", 64)
	for _, s := range []string{
		"", "P", "PAK", "PAKS", "PAKS\x80", "PAKT\x00", "paks\x00", "\x00PAKS", " PAKS\x00", "PAKS \x00",
		"PAKS\x00\x00",             // something behind
		"PAKS\x80\x00",             // 0, as it isn't written
		"PAKS\x81\x00\x01\x00",     // 1, likewise
		"PAKS\x01",                 // fewer than are said
		"PAKS\x01\x01",             // no length
		"PAKS\x02\x01\x00",         // fewer
		"PAKS\x01\x01\x00\x01\x00", // more
		"PAKS\x00\x01\x00",
		"PAKS\x01\x01\x01",      // no data
		"PAKS\x01\x01\x02a",     // too few
		"PAKS\x01\x01\x01ab",    // too many
		"PAKS\x01\x01\x80\x00",  // 0, as it isn't written
		"PAKS\x01\x01\x81\x00a", // 1, likewise
		"PAKS\x01\x01\x80",      // cut
		"PAKS\x01\x00\x00", "PAKS\x01\x05\x00", "PAKS\x01\x08\x00", "PAKS\x01\x09\x00", "PAKS\x01\x80\x00", "PAKS\x01\xff\x00", "PAKS\x01\x81\x00", "PAKS\x01\x41\x00",
		"PAKS\x01\x06\x00\x00", "PAKS\x01\x06\x00\x01", "PAKS\x01\x06\x00", // of none ahead
		"PAKS\x02\x01\x00\x06\x00\x00", "PAKS\x02\x01\x00\x06\x00\x02", "PAKS\x02\x01\x00\x06\x00", "PAKS\x02\x01\x00\x06\x00\x81\x00", "PAKS\x02\x01\x00\x06\x00\x80\x80\x80\x80\x80\x20",
		"PAKS\x02\x06\x00\x01\x01\x00",
		"PAKS\x01\x07\x00", "PAKS\x01\x07\x00" + name[1:], "PAKS\x01\x07\x00" + name + "a", "PAKS\x01\x07\x00" + name[1:] + "g", "PAKS\x01\x07\x00A" + name[1:], "PAKS\x01\x07\x01" + name,
		"PAKS\x01\x01\x80\x80\x80\x80\x80\x20" + name,                  // 2^40 bytes
		"PAKS\x01\x01\x81\x80\x80\x80\x80\x20" + name,                  // more than a number
		"PAKS\x80\x80\x80\x80\x80\x20",                                 // 2^40 entries
		"PAKS\x80\x80\x80\x80\x80\x20" + strings.Repeat("\x01\x00", 9), // likewise
		"PAKS\xff\xff\xff\xff\xff\xff\xff\xff\xff\x01", "PAKS\xff\xff\xff\xff\xff\xff\xff\xff\x7f",
		"PAKS\x81\x04" + strings.Repeat("\x01\x00", 513), // too many entries
		"PAKS\x01\x01\x81\x80\x04" + strings.Repeat("x", api.MaxData+1),
		"PAKS\x02\x01\x00\x06\x81\x80\x04\x01" + strings.Repeat("x", api.MaxData+1),
	} {
		if l, e := pack.Get(sealed(s)); l != nil || e != api.ErrCorrupt {
			t.Errorf("%.99q: %v %v", s, l, e)
		}
		checkBytes(t, sealed(s))
		checkBytes(t, []byte(s))
	}
	for n := range 80 {
		if l, e := pack.Get(make([]byte, n)); l != nil || e != api.ErrCorrupt {
			t.Error(n, l, e)
		}
	}
}

// P7.1, P7.2: bytes near to a pack's: each cut, each byte changed, left out and put in, with the sum as it was, and made anew.
func TestGetNear(t *testing.T) {
	seed := []api.Entry{blob("abcdef"), back(1, "abcdef", "xabcdef"), on("q", "y"), {Kind: api.Tree}, {Kind: api.Back, Back: 3, Data: "z"}}
	b, _ := pack.Put(seed)
	right := 0
	look := func(other []byte) {
		if checkBytes(t, other) == api.OK {
			right++
		}
		if !bytes.Equal(other, b) && bytes.Equal(other[max(0, len(other)-32):], b[len(b)-32:]) && checkBytes(t, other) != api.ErrCorrupt {
			t.Errorf("%q", other)
		}
		checkBytes(t, sealed(string(other[:max(0, len(other)-32)])))
	}
	look(b)
	if right != 1 {
		t.Fatal("the seed is none")
	}
	for n := range b {
		look(b[:n])
		look(b[n+1:])
		look(slices.Delete(slices.Clone(b), n, n+1))
		for _, by := range []byte{0, 1, 6, 7, 127, 128, 255, b[n] + 1, b[n] - 1, b[n] ^ 128} {
			look(slices.Insert(slices.Clone(b), n, by))
			other := slices.Clone(b)
			other[n] = by
			look(other)
		}
	}
	look(append(slices.Clone(b), 0))
	look(slices.Concat(b, b))
}

// P7.1, G1: Whole; P7.3.
func TestWhole(t *testing.T) {
	tree, _ := object.PutTree([]api.Item{{Mode: api.Plain, Name: "a", Id: id("a")}})
	commit, _ := object.PutChange(api.Change{Tree: id("a")})
	tag, _ := object.PutLabel(api.Label{Id: id("a"), Kind: api.Blob, Name: "v"})
	objs := []api.Obj{thing(""), thing("a"), thing(strings.Repeat("x", api.MaxData)), {Kind: api.Tree}, {Kind: api.Tree, Data: tree}, {Kind: api.Commit, Data: commit}, {Kind: api.Tag, Data: tag}, thing("a")}
	var held []api.Held
	for _, o := range objs {
		held = append(held, api.Held{Id: object.Id(o), Obj: o})
	}
	l := pack.Whole(held)
	for i, o := range objs {
		if len(l) != len(objs) || l[i] != (api.Entry{Kind: o.Kind, Data: o.Data}) {
			t.Fatal(i, len(l))
		}
	}
	checkEntries(t, l, nil)
	if got, e := pack.Resolve(l, nil); !slices.Equal(got, objs) || e != api.OK {
		t.Error(len(got), e)
	}
	if got, e := pack.Deep(l, nil); !slices.Equal(got, make([]int, len(objs))) || e != api.OK {
		t.Error(got, e)
	}
	if l := pack.Whole(nil); len(l) != 0 {
		t.Error(l)
	}
	// What is no right object is told as it is, and its Id is not asked.
	odd := []api.Held{{Id: "x"}, {Obj: api.Obj{Kind: 9, Data: "y"}}, {Obj: api.Obj{Kind: api.Commit}}, {Obj: thing("z")}, {Obj: thing("z")}}
	if l := pack.Whole(odd); !slices.Equal(l, []api.Entry{{}, {Kind: 9, Data: "y"}, {Kind: api.Commit}, blob("z"), blob("z")}) {
		t.Error(l)
	}
	if l := pack.Whole(make([]api.Held, 600)); len(l) != 600 {
		t.Error(len(l))
	}
}

// P7.1, G2
func TestResolve(t *testing.T) {
	tree, _ := object.PutTree([]api.Item{{Mode: api.Plain, Name: "a", Id: id("a")}})
	other := strings.Replace(tree, "a", "b", 1)
	long := strings.Repeat("x", api.MaxData+1)
	have := []api.Held{
		{Id: id("h"), Obj: thing("h")}, {Id: id("twice"), Obj: thing("first")}, {Id: id("twice"), Obj: thing("second")},
		{Id: id("tree"), Obj: api.Obj{Kind: api.Tree, Data: tree}}, {Id: id("odd"), Obj: api.Obj{Kind: 9}}, {Id: id("none")},
		{Id: id("long"), Obj: thing(long)}, {Id: id("a"), Obj: thing("no a")}, {Id: id("self"), Obj: thing("h")}, {Id: "x", Obj: thing("x")},
		{Id: id("no tree"), Obj: api.Obj{Kind: api.Tree, Data: "no tree"}},
	}
	by := func(id string, base, text string) api.Entry {
		return api.Entry{Kind: api.Base, Base: id, Data: delta.Make(base, text)}
	}
	for i, c := range []struct {
		l    []api.Entry
		want string // the texts, each with its kind and its depth ahead; or an error's number
	}{
		{nil, ""},
		{[]api.Entry{blob("")}, "10"},
		{[]api.Entry{blob("a"), blob("a")}, "10a 10a"},
		{[]api.Entry{{Kind: api.Tree, Data: tree}}, "20" + tree},
		{[]api.Entry{{Kind: api.Tree, Data: "x"}}, "3"},
		{[]api.Entry{{Kind: api.Commit}}, "3"},
		{[]api.Entry{{Kind: api.Tag, Data: tree}}, "3"},
		// of one so many places ahead
		{[]api.Entry{blob("abcdef"), back(1, "abcdef", "xabcdef")}, "10abcdef 11xabcdef"},
		{[]api.Entry{blob("a"), blob("b"), back(2, "a", "c"), back(1, "c", "d"), back(2, "c", "e"), back(5, "a", "")}, "10a 10b 11c 12d 12e 11"},
		{[]api.Entry{blob("a"), blob("bc"), back(2, "bc", "c")}, "3"},                                                                 // another base
		{[]api.Entry{blob("a"), {Kind: api.Back, Back: 1}}, "3"},                                                                      // no delta
		{[]api.Entry{blob("a"), {Kind: api.Back, Back: 1, Data: "x"}}, "3"},                                                           // likewise
		{[]api.Entry{{Kind: api.Tree, Data: tree}, back(1, tree, other)}, "20" + tree + " 21" + other},                                // of that one's kind
		{[]api.Entry{{Kind: api.Tree}, back(1, "", tree), back(1, tree, other)}, "20 21" + tree + " 22" + other},                      // likewise
		{[]api.Entry{{Kind: api.Tree, Data: tree}, back(1, tree, "x")}, "3"},                                                          // no tree
		{[]api.Entry{blob(long[1:]), back(1, long[1:], long)}, "3"},                                                                   // too long
		{[]api.Entry{blob(long[1:]), back(1, long[1:], long[1:]), back(2, long[1:], "")}, "10" + long[1:] + " 11" + long[1:] + " 11"}, // as long as may be
		// of one of a name
		{[]api.Entry{blob("a"), on("a", "b")}, "10a 11b"}, // an entry's goes ahead of what is there
		{[]api.Entry{on("b", "c"), blob("b")}, "11c 10b"},
		{[]api.Entry{on("c", "d"), on("b", "c"), blob("b")}, "12d 11c 10b"},
		{[]api.Entry{back(0, "", "")}, "1"},
		{[]api.Entry{on("b", "c"), back(1, "c", "d"), blob("b"), on("d", "e")}, "11c 12d 10b 13e"},
		{[]api.Entry{on("d", "e"), on("b", "c"), back(1, "c", "d"), blob("b")}, "13e 11c 12d 10b"},
		{[]api.Entry{{Kind: api.Tree}, by(object.Id(api.Obj{Kind: api.Tree}), "", tree)}, "20 21" + tree},
		{[]api.Entry{{Kind: api.Tree}, on("", "x")}, "51"}, // a blob's name is not a tree's
		{[]api.Entry{on("b", "c")}, "51"},
		{[]api.Entry{on("b", "b")}, "51"},                                   // nothing is made of itself
		{[]api.Entry{on("b", "c"), on("c", "b")}, "51"},                     // nor two of each other
		{[]api.Entry{on("b", "c"), on("c", "b"), blob("b")}, "11c 12b 10b"}, // but of another one
		{[]api.Entry{blob("b"), back(1, "b", "c"), on("q", "d"), back(1, "d", "e")}, "51"},
		{[]api.Entry{on("q", "d"), {Kind: api.Tag}}, "3"},
		{[]api.Entry{blob("b"), by(id("b"), "bb", "c")}, "3"},
		{[]api.Entry{blob(long[1:]), on(long[1:], long)}, "3"},
		// of what is there
		{[]api.Entry{on("h", "i")}, "11i"},
		{[]api.Entry{on("h", "i"), on("i", "j"), back(1, "j", "k")}, "11i 12j 13k"},
		{[]api.Entry{on("j", "k"), on("i", "j"), on("h", "i")}, "13k 12j 11i"},
		{[]api.Entry{on("h", "h")}, "11h"},
		{[]api.Entry{on("h", "h"), on("h", "i")}, "11h 12i"}, // an entry goes ahead of what is there
		{[]api.Entry{on("h", "i"), on("h", "h")}, "11i 11h"}, // but it is not there yet
		{[]api.Entry{on("h", "i"), blob("h")}, "11i 10h"},
		{[]api.Entry{blob("h"), on("h", "i")}, "10h 11i"},
		{[]api.Entry{by(id("twice"), "first", "x")}, "11x"}, // the first
		{[]api.Entry{by(id("twice"), "second", "x")}, "3"},
		{[]api.Entry{by(id("tree"), tree, other)}, "21" + other},
		{[]api.Entry{by(id("tree"), tree, "x")}, "3"},
		{[]api.Entry{by(id("no tree"), "no tree", tree)}, "21" + tree}, // what is there need not be right
		{[]api.Entry{by(id("odd"), "", "")}, "3"},                      // but has to be of a kind
		{[]api.Entry{by(id("none"), "", "")}, "3"},
		{[]api.Entry{by(id("long"), long, "x")}, "11x"},
		{[]api.Entry{by(id("long"), long, long[1:])}, "11" + long[1:]},
		{[]api.Entry{by(id("long"), long, long)}, "3"},
		{[]api.Entry{by(id("a"), "no a", "b")}, "11b"}, // its Id is asked, whether or not it is its name
		{[]api.Entry{by(id("a"), "no a", "b"), blob("a")}, "11b 10a"},
		{[]api.Entry{blob("a"), by(id("a"), "no a", "b")}, "3"},
		{[]api.Entry{by(id("no a"), "no a", "b")}, "51"},
		{[]api.Entry{by(id("self"), "h", "self"), on("self", "x")}, "11self 12x"},
		{[]api.Entry{{Kind: api.Base, Base: "x", Data: delta.Make("x", "y")}}, "1"},
	} {
		objs, e := pack.Resolve(c.l, have)
		deep, f := pack.Deep(c.l, have)
		var got []string
		for i, o := range objs {
			got = append(got, string([]byte{'0' + byte(o.Kind), '0' + byte(deep[i])})+o.Data)
		}
		if want := strings.Join(got, " "); e == api.OK && want != c.want || e != f {
			t.Errorf("%d: %.300q %v %v, not %.300q", i, want, e, f, c.want)
		}
		if no := e.Error()[len("sacristy: error "):]; e != api.OK && (no != c.want || objs != nil || deep != nil) {
			t.Errorf("%d: %s %v %v, not %.300q", i, no, objs, deep, c.want)
		}
		checkEntries(t, c.l, have)
	}
}

// P7.1, G2: of several entries that are resolved to a name's object it is the first that is there by then, which its depth tells.
func TestFirst(t *testing.T) {
	for i, c := range []struct {
		l    []api.Entry
		deep []int
	}{
		{[]api.Entry{blob("x"), blob("x"), on("x", "y")}, []int{0, 0, 1}},
		{[]api.Entry{blob("a"), back(1, "a", "x"), blob("x"), on("x", "y")}, []int{0, 1, 0, 2}},
		{[]api.Entry{blob("x"), back(1, "x", "x"), on("x", "y")}, []int{0, 1, 1}},
		{[]api.Entry{on("x", "y"), blob("a"), back(1, "a", "x"), blob("x")}, []int{2, 0, 1, 0}},
		// The first one comes in the second round, ahead of the one that is made of it, while another one has been there since the first.
		{[]api.Entry{on("a", "x"), on("x", "y"), blob("x"), blob("a")}, []int{1, 2, 0, 0}},
		// It is there too late.
		{[]api.Entry{on("a", "x"), blob("x"), on("x", "y"), blob("a")}, []int{1, 0, 1, 0}},
		{[]api.Entry{on("x", "y"), on("a", "x"), blob("x"), blob("a")}, []int{1, 1, 0, 0}},
		{[]api.Entry{on("x", "x"), on("x", "y"), blob("x")}, []int{1, 2, 0}},
		{[]api.Entry{on("b", "x"), on("x", "y"), on("a", "b"), blob("x"), blob("a"), on("y", "z")}, []int{2, 1, 1, 0, 0, 2}},
	} {
		if deep, e := pack.Deep(c.l, nil); !slices.Equal(deep, c.deep) || e != api.OK {
			t.Errorf("%d: %v %v, not %v", i, deep, e, c.deep)
		}
		checkEntries(t, c.l, nil)
	}
}

// chain are entries of which each is a delta of the one ahead of it, from a place on by its name.
func chain(n, named int) []api.Entry {
	text := func(at int) string { return strings.Repeat("x", at) }
	l := []api.Entry{blob(text(0))}
	for at := 1; at <= n; at++ {
		e := back(1, text(at-1), text(at))
		if at > named {
			e = on(text(at-1), text(at))
		}
		l = append(l, e)
	}
	return l
}

// P7.1, P7.3, G2: no more deltas may stand on one another than may be.
func TestChain(t *testing.T) {
	for named := range 20 {
		for n := range 20 {
			l := chain(n, named)
			want := api.OK
			if n > api.MaxChain {
				want = api.ErrTooMany
			}
			if e := checkEntries(t, l, nil); e != want {
				t.Error(n, named, e)
			}
			// What is there has no depth.
			if e := checkEntries(t, l[1:], []api.Held{{Id: id(""), Obj: thing("")}}); named == 0 && n > 0 && e != want {
				t.Error(n, e)
			}
		}
	}
	l := chain(16, 0)
	slices.Reverse(l) // a round for each
	if deep, e := pack.Deep(l, nil); e != api.OK || deep[0] != 16 || deep[16] != 0 {
		t.Error(deep, e)
	}
	checkEntries(t, l, nil)
	l = chain(17, 0)
	slices.Reverse(l)
	if e := checkEntries(t, l, nil); e != api.ErrTooMany {
		t.Error(e)
	}
	// As deep as may be is that of each, not of all.
	l = append(chain(16, 16), chain(16, 16)...)
	if e := checkEntries(t, l, nil); e != api.OK {
		t.Error(e)
	}
}

// P2, G2: the first entry that is wrong tells its error, as rounds come to it; what is lacking is told of when no round is left.
func TestErrors(t *testing.T) {
	wrong := api.Entry{Kind: api.Tree, Data: "x"}
	deep := chain(17, 17)
	last := strings.Repeat("x", 16)
	for i, c := range []struct {
		l    []api.Entry
		want api.Errno
	}{
		{append(slices.Clone(deep), wrong), api.ErrTooMany},
		{append([]api.Entry{wrong}, deep...), api.ErrCorrupt},
		{append([]api.Entry{on("q", "")}, deep...), api.ErrTooMany},
		{append(slices.Clone(deep), on("q", "")), api.ErrTooMany},
		{[]api.Entry{on("q", ""), wrong}, api.ErrCorrupt},
		{[]api.Entry{wrong, on("q", "")}, api.ErrCorrupt},
		// an entry that is too deep, and has no delta
		{append(slices.Clone(deep[:17]), api.Entry{Kind: api.Back, Back: 1, Data: "x"}), api.ErrCorrupt},
		// one that is wrong in the second round, ahead of one in the first
		{append(append([]api.Entry{{Kind: api.Base, Base: id(last), Data: "x"}}, deep...), blob("")), api.ErrTooMany},
		{append(append([]api.Entry{on(last, "y")}, deep[:17]...), wrong), api.ErrCorrupt},
		{append([]api.Entry{on(last, "y")}, deep[:17]...), api.ErrTooMany},
		{append(append([]api.Entry{on(last, "y")}, deep[:17]...), on("q", "")), api.ErrTooMany},
		{append([]api.Entry{{Kind: 9}}, deep...), api.ErrArg},
		{append(slices.Clone(deep), api.Entry{Kind: 9}), api.ErrArg},
	} {
		if e := checkEntries(t, c.l, nil); e != c.want {
			t.Errorf("%d: %v, not %v", i, e, c.want)
		}
	}
}
