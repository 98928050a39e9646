package walk

import (
	"slices"
	"strings"

	"sacristy/api"
)

// rising sorts a list by its Ids, and leaves of one Id the first alone. The list is changed: it has to be the caller's own.
func rising(l []api.Held) []api.Held {
	slices.SortStableFunc(l, func(a, b api.Held) int { return strings.Compare(a.Id, b.Id) })
	return slices.CompactFunc(l, func(a, b api.Held) bool { return a.Id == b.Id })
}

// objects are those of all Ids: of each the first one.
func objects(l []api.Held) map[string]api.Obj {
	of := map[string]api.Obj{}
	for _, h := range l {
		if _, there := of[h.Id]; !there {
			of[h.Id] = h.Obj
		}
	}
	return of
}

// agree tells whether what is wanted is there, of the kinds that it must be.
func agree(of map[string]api.Obj, wants []api.Want) bool {
	for _, w := range wants {
		if of[w.Id].Kind != w.Kind {
			return false
		}
	}
	return true
}
