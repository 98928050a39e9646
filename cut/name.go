package cut

import (
	"slices"

	"sacristy/api"
	"sacristy/walk"
)

// come is all that rows of names come to, rising, each once; an error, if something of it is lacking.
func come(l []api.Held, rows ...[]string) ([]string, api.Errno) {
	have, lacking := walk.Closure(l, slices.Concat(rows...))
	if len(lacking) > 0 {
		return nil, api.ErrLack
	}
	return have, api.OK
}

// only are those names, in their order, of which a closure tells that they are.
func only(names []string, is func(id string) bool) []string {
	var l []string
	for _, id := range names {
		if is(id) {
			l = append(l, id)
		}
	}
	return l
}

// among tells whether a name is one of these.
func among(names []string) func(id string) bool {
	times := map[string]int{}
	for _, id := range names {
		times[id]++
	}
	return func(id string) bool { return times[id] > 0 }
}

// beside tells whether a name is none of these.
func beside(names []string) func(id string) bool {
	is := among(names)
	return func(id string) bool { return !is(id) }
}
