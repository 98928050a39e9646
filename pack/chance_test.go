package pack_test

import (
	"bytes"
	"math/rand"
	"slices"
	"strconv"
	"strings"
	"sync"
	"testing"

	"sacristy/api"
	"sacristy/delta"
	"sacristy/object"
	"sacristy/pack"
	"sacristy/walk"
)

// texts are few, so that entries often come to one object.
func text(r *rand.Rand) string {
	return []string{"", "a", "b", "c", "abcdef", "xabcdef", "abcdefabcdef"}[r.Intn(7)]
}

// someEntries are entries of blobs, trees among them, by all ways. Most stand on what is there; some do not, or have another one's delta.
func someEntries(r *rand.Rand, most int) []api.Entry {
	goals := make([]string, r.Intn(most+1))
	backs, far := 16, most
	if r.Intn(3) == 0 {
		backs, far = 38, 2 // deltas on deltas
	}
	for at := range goals {
		goals[at] = text(r)
	}
	var l []api.Entry
	for at, goal := range goals {
		e := blob(goal)
		switch kind := r.Intn(40); {
		case kind < backs && at > 0:
			n := 1 + r.Intn(min(at, far))
			e = back(n, goals[at-n], goal)
		case kind < 32:
			e = on(goals[r.Intn(len(goals))], goal)
		case kind == 32:
			e = on(text(r), goal)
		case kind == 33 && r.Intn(4) == 0:
			e = api.Entry{Kind: api.Base, Base: id(goals[r.Intn(len(goals))]), Data: delta.Make(text(r), goal)}
		case kind == 34 && r.Intn(4) == 0:
			e = api.Entry{Kind: api.Tree}
		case kind == 35 && r.Intn(9) == 0:
			e = api.Entry{Kind: r.Intn(9), Back: r.Intn(3), Data: goal}
		}
		l = append(l, e)
	}
	return l
}

func someHeld(r *rand.Rand) []api.Held {
	var l []api.Held
	for range r.Intn(4) {
		h := api.Held{Obj: thing(text(r))}
		h.Id = object.Id(h.Obj)
		if r.Intn(9) == 0 {
			h.Id = id(text(r))
		}
		if r.Intn(20) == 0 {
			h.Obj.Kind = r.Intn(6)
		}
		l = append(l, h)
	}
	return l
}

// P7.1 to P7.3: entries by chance, against the twins.
func TestByChance(t *testing.T) {
	r := rand.New(rand.NewSource(1))
	times := map[api.Errno]int{}
	for n := range 20000 {
		l, have := someEntries(r, []int{3, 6, 12, 40}[n%4]), someHeld(r)
		e := checkEntries(t, l, have)
		times[e]++
		if e == api.OK {
			checkResolved(t, l, have)
		}
	}
	for _, e := range []api.Errno{api.OK, api.ErrArg, api.ErrCorrupt, api.ErrTooMany, api.ErrLack} {
		if times[e] < 100 {
			t.Error("too few of", e, times)
		}
	}
}

// checkResolved has what is resolved be right, and no deeper than may be; and whole entries of it be resolved to it (P7.3).
func checkResolved(t *testing.T, l []api.Entry, have []api.Held) {
	t.Helper()
	objs, _ := pack.Resolve(l, have)
	deep, _ := pack.Deep(l, have)
	var held []api.Held
	for at, o := range objs {
		if !object.Right(o) || deep[at] < 0 || deep[at] > api.MaxChain || (deep[at] == 0) != (l[at].Kind <= api.Tag) {
			t.Fatal(at, o, deep[at])
		}
		held = append(held, api.Held{Obj: o})
	}
	whole := pack.Whole(held)
	for _, some := range [][]api.Held{nil, have} {
		again, e := pack.Resolve(whole, some)
		flat, f := pack.Deep(whole, some)
		if !slices.Equal(again, objs) || e != api.OK || f != api.OK || slices.ContainsFunc(flat, func(n int) bool { return n != 0 }) {
			t.Fatal(again, objs, flat, e)
		}
	}
}

// P7.2: bytes by chance, of edges, in the form of entries and nearly so.
func TestBytesByChance(t *testing.T) {
	r := rand.New(rand.NewSource(2))
	edges := []string{"\x00", "\x01", "\x02", "\x03", "\x04", "\x05", "\x06", "\x07", "\x08", "\x7f", "\x80", "\x81\x00", "\x80\x01", "x", strings.Repeat("a", 64), strings.Repeat("g", 64), "\x06\x00\x01", "\x01\x00", "\x01\x01a"}
	right := 0
	for range 60000 {
		s := "PAKS" + string([]byte{byte(r.Intn(4))})
		for range r.Intn(8) {
			s += edges[r.Intn(len(edges))]
		}
		if checkBytes(t, sealed(s)) == api.OK {
			right++
		}
	}
	if right < 1000 {
		t.Error(right)
	}
}

// P7.4: an entry that is made a delta of another one ahead of it, or of any one by its name, is resolved to what it was.
func TestMadeDelta(t *testing.T) {
	r := rand.New(rand.NewSource(3))
	for range 2000 {
		var held []api.Held
		for at := range 2 + r.Intn(12) {
			o := thing(strings.Repeat(text(r), r.Intn(3)) + strconv.Itoa(at))
			if r.Intn(4) == 0 {
				o.Kind = api.Tree
				o.Data, _ = object.PutTree([]api.Item{{Mode: api.Plain, Name: "n" + strconv.Itoa(at), Id: id("a")}})
			}
			held = append(held, api.Held{Id: object.Id(o), Obj: o})
		}
		l := pack.Whole(held)
		want, _ := pack.Resolve(l, nil)
		for at := range l {
			n := r.Intn(at + 1)
			from := held[at-n].Obj
			if n == 0 || from.Kind != held[at].Obj.Kind {
				continue
			}
			d := delta.Make(from.Data, held[at].Obj.Data)
			before := l[at]
			l[at] = api.Entry{Kind: api.Back, Back: n, Data: d}
			if r.Intn(3) == 0 {
				l[at] = api.Entry{Kind: api.Base, Base: held[at-n].Id, Data: d}
			}
			got, e := pack.Resolve(l, nil)
			if !slices.Equal(got, want) || e != api.OK {
				t.Fatal(l, e)
			}
			if r.Intn(4) == 0 {
				l[at] = before
			}
		}
		checkEntries(t, l, nil)
	}
}

// P1, P7.1: as many and as long as may be, and what is there more than may be, in good time.
func TestMany(t *testing.T) {
	var l []api.Entry
	var have []api.Held
	for n := range 1 << 17 {
		s := strconv.Itoa(n)
		have = append(have, api.Held{Id: strings.Repeat("0", 64-len(s)) + s, Obj: thing(s)})
	}
	slices.Reverse(have)
	for n := range api.MaxObjects {
		s := strconv.Itoa(n)
		l = append(l, api.Entry{Kind: api.Base, Base: strings.Repeat("0", 64-len(s)) + s, Data: delta.Make(s, "of "+s)})
	}
	objs, e := pack.Resolve(l, have)
	if e != api.OK || len(objs) != api.MaxObjects || objs[511] != thing("of 511") {
		t.Error(len(objs), e)
	}
	if _, e := pack.Resolve(l, have[:1<<17-1]); e != api.ErrLack {
		t.Error(e)
	}
	long := strings.Repeat("x", api.MaxData)
	l = slices.Repeat([]api.Entry{blob(long)}, api.MaxObjects-1)
	for n := range 200 {
		l[200+n] = back(1+n%16, long, long)
	}
	l = append(l, on(long, "y"))
	deep, e := pack.Deep(l, nil)
	if e != api.OK || len(deep) != api.MaxObjects || deep[511] != 1 {
		t.Error(len(deep), e)
	}
}

// P1, P7.1: a few bytes that would make more than there is room for are no object.
func TestMuch(t *testing.T) {
	long := strings.Repeat("x", 1<<24)
	have := []api.Held{{Id: id("long"), Obj: thing(long)}}
	step := "\x80" + number(0) + number(len(long))
	for _, steps := range []int{1, 2, 1 << 7, 1 << 13} {
		e := api.Entry{Kind: api.Base, Base: id("long"), Data: number(len(long)) + number(steps*len(long)) + strings.Repeat(step, steps)}
		if objs, no := pack.Resolve([]api.Entry{e}, have); objs != nil || no != api.ErrCorrupt {
			t.Error(steps, len(objs), no)
		}
	}
	for _, n := range []int{0, 1, api.MaxData, api.MaxData + 1, 1 << 40} {
		e := api.Entry{Kind: api.Base, Base: id("long"), Data: number(len(long)) + number(n) + "\x80" + number(1) + number(api.MaxData)}
		want := api.ErrCorrupt
		if n == api.MaxData {
			want = api.OK
		}
		if objs, no := pack.Resolve([]api.Entry{e}, have); no != want || len(objs) == 1 && objs[0].Data != long[:n] {
			t.Error(n, no)
		}
	}
}

// P3: what is handed in stays as it is, its spare room too.
func TestHandedIn(t *testing.T) {
	l := []api.Entry{on("b", "c"), blob("a"), back(1, "a", "b"), on("h", "i"), blob("spare"), blob("room")}
	have := []api.Held{{Id: id("z"), Obj: thing("z")}, {Id: id("h"), Obj: thing("h")}, {Id: id("h"), Obj: thing("i")}, {Id: id("a")}, {Id: "spare"}, {Id: "room"}}
	b := append(twinBytes(l[:4]), "spare room"...)
	given, held, bytesGiven := slices.Clone(l), slices.Clone(have), bytes.Clone(b)
	n := len(b) - len("spare room")
	for _, part := range [][]api.Entry{l[:4], l[:0], l[:1], l[3:4], l[2:4]} {
		pack.Right(part)
		pack.Put(part)
		pack.Resolve(part, have[:4])
		pack.Deep(part, have[:4])
	}
	pack.Whole(have[:4])
	if got, e := pack.Get(b[:n]); len(got) != 4 || e != api.OK {
		t.Error(got, e)
	}
	pack.Get(b[:n-1])
	pack.Get(b)
	if !slices.Equal(l, given) || !slices.Equal(have, held) || !bytes.Equal(b, bytesGiven) {
		t.Error("changed")
	}
}

// P3: what comes out is nobody else's, its spare room too; nor is what was handed in kept.
func TestComeOut(t *testing.T) {
	l := []api.Entry{blob("abcdef"), back(1, "abcdef", "xabcdef"), on("h", "i")}
	have := walk.Set([]api.Obj{thing("h")})
	given, held := slices.Clone(l), slices.Clone(have)
	b, _ := pack.Put(l)
	bytesGiven := bytes.Clone(b)
	got, _ := pack.Get(b)
	whole := pack.Whole(have)
	objs, _ := pack.Resolve(l, have)
	deep, _ := pack.Deep(l, have)
	again, _ := pack.Put(l)
	wantObjs, wantDeep, _ := twinResolve(l, have)
	clear(again[:cap(again)])
	clear(b[:cap(b)])
	if !slices.Equal(got, l) {
		t.Error("bytes are kept", got)
	}
	if other, _ := pack.Get(bytesGiven); !slices.Equal(other, l) {
		t.Error(other)
	}
	clear(got[:cap(got)])
	clear(whole[:cap(whole)])
	if !slices.Equal(objs, wantObjs) || !slices.Equal(deep, wantDeep) {
		t.Error(objs, deep)
	}
	clear(objs[:cap(objs)])
	clear(deep[:cap(deep)])
	if b, _ := pack.Put(l); !bytes.Equal(b, bytesGiven) || !slices.Equal(l, given) || !slices.Equal(have, held) {
		t.Error("shared")
	}
	checkEntries(t, l, have)
}

// P3: a call hangs on no other one, before it or beside it.
func TestAlone(t *testing.T) {
	var calls sync.WaitGroup
	for n := range 8 {
		calls.Go(func() {
			r := rand.New(rand.NewSource(int64(n % 2)))
			for range 300 {
				l, have := someEntries(r, 8), someHeld(r)
				objs, e := pack.Resolve(l, have)
				b, f := pack.Put(l)
				wantObjs, _, no := twinResolve(l, have)
				want, not := twinPut(l)
				if !slices.Equal(objs, wantObjs) || !bytes.Equal(b, want) || e != no || f != not {
					t.Error(l, have)
				}
			}
		})
	}
	calls.Wait()
}
