package root

import (
	"strings"

	"sacristy/api"
	"sacristy/num"
	"sacristy/refs"
)

// read is the root whose lines a text is; behind an error it is of no use.
func read(b []byte) (api.Root, error) {
	var all api.Root
	r := &reader{rest: b}
	all.Count = r.number(netWord, maxCount)
	all.Pool = r.packs(r.number(poolWord, api.MaxPacks))
	for range r.number(forksWord, api.MaxForks) {
		all.Forks = append(all.Forks, r.fork(all.Forks))
	}
	return all, r.end()
}

// number reads a line of a word and a number; 0, if it is wrong, so that nobody goes on to count by it.
func (r *reader) number(word string, most int) int {
	var n int
	r.line(func(s string) (err error) {
		digits, is := strings.CutPrefix(s, word+" ")
		if !is {
			return errForm
		}
		n, err = upTo(most, digits)
		return err
	})
	return n
}

func upTo(most int, digits string) (int, error) {
	n, is := num.Decimal(digits)
	if !is {
		return 0, errForm
	}
	if n > most {
		return 0, errWrong
	}
	return n, nil
}

// packs reads so many names, each asked with those ahead of it.
func (r *reader) packs(n int) []string {
	var l []string
	for range n {
		r.line(func(s string) error {
			l = append(l, s)
			return need(arePacks(l), errWrong)
		})
	}
	return l
}

// refs reads so many refs.
func (r *reader) refs(n int) []api.Ref {
	var l []api.Ref
	for range n {
		r.line(func(s string) error {
			one, is := refs.Get(s + "\n")
			l = append(l, one...)
			return need(is, errWrong)
		})
	}
	// Each alone may be right, where all together are not.
	r.keep(need(refs.Right(l), errWrong))
	return l
}

// fork reads a fork that stands behind others, and all that it has.
func (r *reader) fork(ahead []api.Fork) api.Fork {
	var o opening
	r.line(func(s string) (err error) {
		o, err = open(s)
		if err != nil {
			return err
		}
		return need(mayFollow(ahead, o.fork), errWrong)
	})
	o.fork.Refs = r.refs(o.refs)
	o.fork.Packs = r.packs(o.packs)
	return o.fork
}

// opening is what the first line of a fork says: how it is called, and how many refs and packs it has.
type opening struct {
	fork  api.Fork
	refs  int
	packs int
}

const openingWords = 6

func open(s string) (opening, error) {
	w := strings.SplitN(s, " ", openingWords+1)
	if len(w) != openingWords || w[0] != forkWord {
		return opening{}, errForm
	}
	f := api.Fork{Name: w[1], Linked: w[2] == linkedWord, Head: w[3]}
	if bond(f.Linked) != w[2] {
		return opening{}, errForm
	}
	refCount, err := upTo(api.MaxRefs, w[4])
	if err != nil {
		return opening{}, err
	}
	packCount, err := upTo(api.MaxPacks, w[5])
	if err != nil {
		return opening{}, err
	}
	return opening{f, refCount, packCount}, nil
}
