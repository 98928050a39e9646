package root_test

import (
	"fmt"
	"regexp"
	"sort"
	"strconv"
	"strings"

	"sacristy/api"
)

// The words of the chapter, told once more, the plainest way.

var (
	twinFork = regexp.MustCompile(`\A[a-z0-9-]{1,20}\z`)
	twinId   = regexp.MustCompile(`\A[0-9a-f]{64}\z`)
	twinRef  = regexp.MustCompile(`\A(heads|tags)(/[a-z0-9_-][a-z0-9._-]{0,29}){1,3}\z`)
	twinOpen = regexp.MustCompile(`\Afork (\S*) (linked|alone) (\S*) (\S+) (\S+)\z`)
)

func twinPacks(l []string) bool {
	once := map[string]bool{}
	for _, id := range l {
		if !twinId.MatchString(id) {
			return false
		}
		once[id] = true
	}
	return len(once) == len(l) && len(l) <= 24
}

func twinRefs(l []api.Ref) bool {
	for i, r := range l {
		if !twinRef.MatchString(r.Name) || len(r.Name) > 80 || !twinId.MatchString(r.Id) || i > 0 && l[i-1].Name >= r.Name {
			return false
		}
		for _, o := range l {
			if strings.HasPrefix(o.Name, r.Name+"/") {
				return false
			}
		}
	}
	return len(l) <= 64
}

func twinRight(r api.Root) bool {
	var names []string
	for _, f := range r.Forks {
		if len(names) > 0 && names[len(names)-1] == f.Name || !twinFork.MatchString(f.Name) {
			return false
		}
		names = append(names, f.Name)
		head := f.Head[:min(len(f.Head), 6)] == "heads/" && twinRef.MatchString(f.Head) && len(f.Head) <= 80
		if !head || !twinRefs(f.Refs) || !twinPacks(f.Packs) {
			return false
		}
	}
	return sort.StringsAreSorted(names) && len(names) <= 16 && 0 <= r.Count && r.Count <= 1099511627776 && twinPacks(r.Pool)
}

func twinPut(r api.Root) (string, bool) {
	if !twinRight(r) {
		return "", false
	}
	s := fmt.Sprintf("net %d\npool %d\n", r.Count, len(r.Pool))
	for _, id := range r.Pool {
		s += id + "\n"
	}
	s += fmt.Sprintf("forks %d\n", len(r.Forks))
	for _, f := range r.Forks {
		word := map[bool]string{true: "linked", false: "alone"}[f.Linked]
		s += fmt.Sprintf("fork %s %s %s %d %d\n", f.Name, word, f.Head, len(f.Refs), len(f.Packs))
		for _, ref := range f.Refs {
			s += ref.Id + " " + ref.Name + "\n"
		}
		for _, id := range f.Packs {
			s += id + "\n"
		}
	}
	return s, true
}

// twinGet takes what may be a root's lines for such, and holds against them those of the root that it takes them for.
func twinGet(s string) (r api.Root, is bool) {
	left := strings.Split(s, "\n")
	next := func() (line string) {
		if len(left) > 0 {
			line, left = left[0], left[1:]
		}
		return line
	}
	number := func(s string) int {
		n, _ := strconv.Atoi(s)
		return n
	}
	count := func(word string) int { return number(strings.TrimPrefix(next(), word)) }
	ids := func(n int) (l []string) {
		for range min(n, 100) {
			l = append(l, next())
		}
		return l
	}
	r.Count = count("net ")
	r.Pool = ids(count("pool "))
	for range min(count("forks "), 100) {
		m := twinOpen.FindStringSubmatch(next())
		if m == nil {
			return api.Root{}, false
		}
		f := api.Fork{Name: m[1], Linked: m[2] == "linked", Head: m[3]}
		for range min(number(m[4]), 100) {
			id, name, _ := strings.Cut(next(), " ")
			f.Refs = append(f.Refs, api.Ref{Name: name, Id: id})
		}
		f.Packs = ids(number(m[5]))
		r.Forks = append(r.Forks, f)
	}
	again, right := twinPut(r)
	if !right || again != s {
		return api.Root{}, false
	}
	return r, true
}
