package walk_test

import (
	"maps"
	"slices"

	"sacristy/api"
	"sacristy/object"
)

// The words of the chapter, told once more, the plainest way.

func twinFind(l []api.Held, id string) (api.Obj, bool) {
	for _, h := range l {
		if h.Id == id {
			return h.Obj, true
		}
	}
	return api.Obj{}, false
}

func twinSet(l []api.Obj) []api.Held {
	by := map[string]api.Obj{}
	for _, o := range l {
		if object.Right(o) {
			by[object.Id(o)] = o
		}
	}
	var out []api.Held
	for _, id := range slices.Sorted(maps.Keys(by)) {
		out = append(out, api.Held{Id: id, Obj: by[id]})
	}
	return out
}

func twinJoin(a, b []api.Held) []api.Held {
	ids := map[string]bool{}
	for _, h := range slices.Concat(a, b) {
		ids[h.Id] = true
	}
	var out []api.Held
	for _, id := range slices.Sorted(maps.Keys(ids)) {
		o, there := twinFind(a, id)
		if !there {
			o, _ = twinFind(b, id)
		}
		out = append(out, api.Held{Id: id, Obj: o})
	}
	return out
}

func twinPick(l []api.Held, ids []string) []api.Held {
	var out []api.Held
	for _, h := range l {
		if slices.Contains(ids, h.Id) {
			out = append(out, h)
		}
	}
	return out
}

// twinCome is all that tips come to: what is named is put in, till nothing new comes.
func twinCome(l []api.Held, tips []string) []string {
	all := map[string]bool{}
	for _, id := range tips {
		all[id] = true
	}
	for {
		before := slices.Sorted(maps.Keys(all))
		for _, id := range before {
			o, _ := twinFind(l, id)
			for _, w := range object.Wants(o) {
				all[w.Id] = true
			}
		}
		if len(all) == len(before) {
			return before
		}
	}
}

func twinClosure(l []api.Held, tips []string) ([]string, []string) {
	var have, lacking []string
	for _, id := range twinCome(l, tips) {
		if _, there := twinFind(l, id); there {
			have = append(have, id)
		} else {
			lacking = append(lacking, id)
		}
	}
	return have, lacking
}

func twinSound(l []api.Held, tips []string) api.Errno {
	have, lacking := twinClosure(l, tips)
	if len(lacking) > 0 {
		return api.ErrLack
	}
	for _, id := range have {
		o, _ := twinFind(l, id)
		for _, w := range object.Wants(o) {
			if named, _ := twinFind(l, w.Id); named.Kind != w.Kind {
				return api.ErrCorrupt
			}
		}
	}
	return api.OK
}
