package cut_test

import (
	"maps"
	"slices"

	"sacristy/api"
	"sacristy/object"
)

// The words of the chapter, told once more, the plainest way.

func twinFind(l []api.Held, id string) (api.Obj, bool) {
	for _, h := range l {
		if h.Id == id {
			return h.Obj, true
		}
	}
	return api.Obj{}, false
}

// twinCome is all that tips come to, there or not: what is named is put in, till nothing new comes.
func twinCome(l []api.Held, tips []string) []string {
	met := map[string]bool{}
	for _, id := range tips {
		met[id] = true
	}
	for {
		before := slices.Sorted(maps.Keys(met))
		for _, id := range before {
			o, _ := twinFind(l, id)
			for _, w := range object.Wants(o) {
				met[w.Id] = true
			}
		}
		if len(met) == len(before) {
			return before
		}
	}
}

func twinLacks(l []api.Held, ids []string) bool {
	return slices.ContainsFunc(ids, func(id string) bool { _, there := twinFind(l, id); return !there })
}

func twinSend(l []api.Held, tips, wants, haves []string) ([]string, api.Errno) {
	if len(wants) == 0 {
		return nil, api.ErrArg
	}
	for _, id := range wants {
		if !slices.Contains(tips, id) {
			return nil, api.ErrArg
		}
	}
	come := twinCome(l, tips)
	if twinLacks(l, come) {
		return nil, api.ErrLack
	}
	var common, sent []string
	for _, id := range haves {
		if slices.Contains(come, id) {
			common = append(common, id)
		}
	}
	theirs := twinCome(l, common)
	for _, id := range twinCome(l, wants) {
		if !slices.Contains(theirs, id) {
			sent = append(sent, id)
		}
	}
	return sent, api.OK
}

func twinUnion(l []api.Held, tips [][]string) ([]string, api.Errno) {
	var come []string
	for _, row := range tips {
		come = union(come, twinCome(l, row))
	}
	if twinLacks(l, come) {
		return nil, api.ErrLack
	}
	return come, api.OK
}
