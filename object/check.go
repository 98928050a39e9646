package object

import (
	"slices"

	"sacristy/digest"
)

const (
	longestPart = 70
	longestWho  = 100
)

func checkName(id string) error {
	return need(digest.Named(id), "name", errWrong)
}

// checkPart is an error, if that is no name of an item or a tag.
func checkPart(s string) error {
	is := s != "" && s != "." && s != ".." && onlyHas(s, func(c byte) bool {
		return '!' <= c && c <= '~' && c != '/'
	})
	if !is {
		return &fault{"part", errWrong}
	}
	return need(len(s) <= longestPart, "part", errOver)
}

func checkWho(s string) error {
	is := onlyHas(s, func(c byte) bool { return ' ' <= c && c <= '~' })
	if !is {
		return &fault{"who", errWrong}
	}
	return need(len(s) <= longestWho, "who", errOver)
}

func onlyHas(s string, may func(c byte) bool) bool {
	for i := range len(s) {
		if !may(s[i]) {
			return false
		}
	}
	return true
}

// checkOnce is an error, if two of a list are one.
func checkOnce(l []string) error {
	once := slices.Compact(slices.Sorted(slices.Values(l)))
	return need(len(once) == len(l), "two", errWrong)
}
