package refs

import (
	"slices"
	"strings"

	"sacristy/api"
	"sacristy/digest"
)

// byName is refs by their names, while they are changed.
type byName map[string]api.Ref

func nameMap(l []api.Ref) byName {
	by := byName{}
	for _, r := range l {
		by[r.Name] = r
	}
	return by
}

// list is all refs, by rising names.
func (by byName) list() []api.Ref {
	var l []api.Ref
	for _, r := range by {
		l = append(l, r)
	}
	slices.SortFunc(l, func(a, b api.Ref) int { return strings.Compare(a.Name, b.Name) })
	return l
}

// change does all updates, and tells an error and the place of the update that has it. Behind an error the map is of no use.
func (by byName) change(u []api.Update) (api.Errno, int) {
	times := map[string]int{}
	wrong := func(one api.Update) bool {
		times[one.Name]++
		return times[one.Name] > 1 || !mayBe(one)
	}
	stale := func(one api.Update) bool { return one.Old != by[one.Name].Id }
	clashes := func(one api.Update) bool { return one.New != "" && !by.fits(one.Name) }

	if at := slices.IndexFunc(u, wrong); at >= 0 {
		return api.ErrArg, at
	}
	if at := slices.IndexFunc(u, stale); at >= 0 {
		return api.ErrStale, at
	}
	by.set(u)
	// Only now: an update may make room for one ahead of it.
	if at := slices.IndexFunc(u, clashes); at >= 0 {
		return api.ErrThere, at
	}
	if len(by) > api.MaxRefs {
		return api.ErrTooMany, 0
	}
	return api.OK, 0
}

func (by byName) set(u []api.Update) {
	for _, one := range u {
		if one.New == "" {
			delete(by, one.Name)
		} else {
			by[one.Name] = api.Ref{Name: one.Name, Id: one.New}
		}
	}
}

// fits tells whether no name is above this one, or under it.
func (by byName) fits(name string) bool {
	for other := range by {
		if above(other, name) || above(name, other) {
			return false
		}
	}
	return true
}

// mayBe tells whether an update may be one, whatever there is.
func mayBe(one api.Update) bool {
	return Named(one.Name) && isIdOrNone(one.Old) && isIdOrNone(one.New) && (one.Old != "" || one.New != "")
}

func isIdOrNone(id string) bool { return id == "" || digest.Named(id) }
