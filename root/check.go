package root

import (
	"slices"
	"strings"

	"sacristy/api"
	"sacristy/digest"
	"sacristy/refs"
)

const (
	maxName  = 20
	maxCount = 1 << 40
)

func isNameByte(c byte) bool {
	return 'a' <= c && c <= 'z' || '0' <= c && c <= '9' || c == '-'
}

func isHead(name string) bool { return refs.Named(name) && strings.HasPrefix(name, "heads/") }

// arePacks tells whether these may be all packs of someone: names, in any order, each once.
func arePacks(l []string) bool {
	isNone := func(id string) bool { return !digest.Named(id) }
	if len(l) > api.MaxPacks || slices.ContainsFunc(l, isNone) {
		return false
	}
	once := make([]string, len(l))
	copy(once, l) // their own order stays
	slices.Sort(once)
	return len(slices.Compact(once)) == len(l)
}

// areForks tells whether these may be all forks of a net.
func areForks(l []api.Fork) bool {
	if len(l) > api.MaxForks {
		return false
	}
	for at, f := range l {
		if !mayFollow(l[:at], f) || !refs.Right(f.Refs) || !arePacks(f.Packs) {
			return false
		}
	}
	return true
}

// mayFollow tells whether a fork may stand behind these, whatever it has.
func mayFollow(ahead []api.Fork, f api.Fork) bool {
	rises := len(ahead) == 0 || ahead[len(ahead)-1].Name < f.Name
	return rises && Named(f.Name) && isHead(f.Head)
}
