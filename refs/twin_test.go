package refs_test

import (
	"fmt"
	"regexp"
	"slices"
	"strings"

	"sacristy/api"
)

// The words of the chapter, told once more, the plainest way.

var (
	twinName = regexp.MustCompile(`\A(heads|tags)(/[a-z0-9_-][a-z0-9._-]{0,29}){1,3}\z`)
	twinId   = regexp.MustCompile(`\A[0-9a-f]{64}\z`)
	twinLine = regexp.MustCompile(`\A([^ \n]*) ([^\n]*)\n`)
)

func twinNamed(name string) bool { return len(name) <= 80 && twinName.MatchString(name) }

func twinAbove(name, other string) bool { return strings.HasPrefix(other, name+"/") }

func twinRight(l []api.Ref) bool {
	for i, r := range l {
		if !twinNamed(r.Name) || !twinId.MatchString(r.Id) || i > 0 && l[i-1].Name >= r.Name {
			return false
		}
		for _, o := range l {
			if twinAbove(r.Name, o.Name) {
				return false
			}
		}
	}
	return len(l) <= 64
}

func twinFind(l []api.Ref, name string) string {
	for _, r := range l {
		if r.Name == name {
			return r.Id
		}
	}
	return ""
}

// twinApply takes one update after another, and puts each at its place.
func twinApply(l []api.Ref, u []api.Update) ([]api.Ref, api.Errno, int) {
	if !twinRight(l) || len(u) == 0 || len(u) > 16 {
		return nil, api.ErrArg, 0
	}
	for i, x := range u {
		for _, y := range u[:i] {
			if x.Name == y.Name {
				return l, api.ErrArg, i
			}
		}
		for _, id := range []string{x.Old, x.New} {
			if id != "" && !twinId.MatchString(id) {
				return l, api.ErrArg, i
			}
		}
		if !twinNamed(x.Name) || x.Old+x.New == "" {
			return l, api.ErrArg, i
		}
	}
	for i, x := range u {
		if twinFind(l, x.Name) != x.Old {
			return l, api.ErrStale, i
		}
	}
	then := slices.Clone(l)
	for _, x := range u {
		then = slices.DeleteFunc(then, func(r api.Ref) bool { return r.Name == x.Name })
		at := 0
		for at < len(then) && then[at].Name < x.Name {
			at++
		}
		if x.New != "" {
			then = slices.Insert(then, at, api.Ref{Name: x.Name, Id: x.New})
		}
	}
	for i, x := range u {
		for _, r := range then {
			if x.New != "" && (twinAbove(x.Name, r.Name) || twinAbove(r.Name, x.Name)) {
				return l, api.ErrThere, i
			}
		}
	}
	if len(then) > 64 {
		return l, api.ErrTooMany, 0
	}
	return then, api.OK, 0
}

func twinPut(l []api.Ref) (string, bool) {
	if !twinRight(l) {
		return "", false
	}
	s := ""
	for _, r := range l {
		s += fmt.Sprintf("%s %s\n", r.Id, r.Name)
	}
	return s, true
}

func twinGet(s string) ([]api.Ref, bool) {
	var l []api.Ref
	for left := s; left != ""; {
		m := twinLine.FindStringSubmatch(left)
		if m == nil {
			return nil, false
		}
		l = append(l, api.Ref{Name: m[2], Id: m[1]})
		left = left[len(m[0]):]
	}
	again, is := twinPut(l)
	if !is || again != s {
		return nil, false
	}
	return l, true
}
