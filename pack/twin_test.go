package pack_test

import (
	"crypto/sha256"
	"encoding/binary"
	"strings"

	"sacristy/api"
	"sacristy/delta"
	"sacristy/object"
)

// The words of the chapter, told once more, the plainest way.

func number(n int) string { return string(binary.AppendUvarint(nil, uint64(n))) }

// sealed is a text with its sum behind it.
func sealed(s string) []byte {
	sum := sha256.Sum256([]byte(s))
	return append([]byte(s), sum[:]...)
}

func twinNamed(s string) bool { return len(s) == 64 && strings.Trim(s, "0123456789abcdef") == "" }

func twinRight(l []api.Entry) bool {
	for at, e := range l {
		whole := 1 <= e.Kind && e.Kind <= 4 && e.Back == 0 && e.Base == ""
		back := e.Kind == 6 && e.Back >= 1 && e.Back <= at && e.Base == ""
		base := e.Kind == 7 && e.Back == 0 && twinNamed(e.Base)
		if !whole && !back && !base || len(e.Data) > 65536 {
			return false
		}
	}
	return len(l) <= 512
}

func twinBytes(l []api.Entry) []byte {
	var b strings.Builder
	b.WriteString("PAKS" + number(len(l)))
	for _, e := range l {
		b.WriteString(string([]byte{byte(e.Kind)}) + number(len(e.Data)))
		if e.Kind == 6 {
			b.WriteString(number(e.Back))
		}
		b.WriteString(e.Base + e.Data)
	}
	return sealed(b.String())
}

func twinPut(l []api.Entry) ([]byte, api.Errno) {
	if !twinRight(l) {
		return nil, api.ErrArg
	}
	if b := twinBytes(l); len(b) <= 1<<18 {
		return b, api.OK
	}
	return nil, api.ErrTooMany
}

// twinGet reads without minding what is wrong: what was read is put again, and has to be the same.
func twinGet(b []byte) ([]api.Entry, api.Errno) {
	s := string(b)
	take := func(n int) string {
		n = max(0, min(n, len(s)))
		t := s[:n]
		s = s[n:]
		return t
	}
	get := func() int {
		n, k := binary.Uvarint([]byte(s))
		take(k)
		return int(n)
	}
	take(4)
	var l []api.Entry
	for range min(get(), 600) {
		var e api.Entry
		e.Kind = int((take(1) + "\x00")[0])
		size := get()
		if e.Kind == 6 {
			e.Back = get()
		}
		if e.Kind == 7 {
			e.Base = take(64)
		}
		e.Data = take(size)
		l = append(l, e)
	}
	if again, e := twinPut(l); e == api.OK && string(again) == string(b) {
		return l, api.OK
	}
	return nil, api.ErrCorrupt
}

// twin is entries on the way to be resolved.
type twin struct {
	l     []api.Entry
	there []bool
	objs  []api.Obj
	deep  []int
}

// base is the object that an entry is made of, its depth, and whether it is there yet.
func (w *twin) base(at int, have []api.Held) (api.Obj, int, bool) {
	e := w.l[at]
	if e.Kind == 6 {
		return w.objs[at-e.Back], w.deep[at-e.Back], w.there[at-e.Back]
	}
	for i, o := range w.objs {
		if w.there[i] && object.Id(o) == e.Base {
			return o, w.deep[i], true
		}
	}
	for _, h := range have {
		if h.Id == e.Base {
			return h.Obj, 0, true
		}
	}
	return api.Obj{}, 0, false
}

// round is one, and whether any was resolved.
func (w *twin) round(have []api.Held) (bool, api.Errno) {
	any := false
	for at, e := range w.l {
		if w.there[at] {
			continue
		}
		o, depth := api.Obj{Kind: e.Kind, Data: e.Data}, 0
		if e.Kind > 4 {
			from, under, is := w.base(at, have)
			if !is {
				continue
			}
			text, no := delta.Apply(from.Data, e.Data)
			if no != api.OK {
				return false, api.ErrCorrupt
			}
			o, depth = api.Obj{Kind: from.Kind, Data: text}, under+1
		}
		if !object.Right(o) {
			return false, api.ErrCorrupt
		}
		if depth > 16 {
			return false, api.ErrTooMany
		}
		any, w.there[at], w.objs[at], w.deep[at] = true, true, o, depth
	}
	return any, api.OK
}

func twinResolve(l []api.Entry, have []api.Held) ([]api.Obj, []int, api.Errno) {
	if !twinRight(l) {
		return nil, nil, api.ErrArg
	}
	w := &twin{l, make([]bool, len(l)), make([]api.Obj, len(l)), make([]int, len(l))}
	for {
		any, no := w.round(have)
		if no != api.OK {
			return nil, nil, no
		}
		if !any {
			break
		}
	}
	for _, is := range w.there {
		if !is {
			return nil, nil, api.ErrLack
		}
	}
	return w.objs, w.deep, api.OK
}
