package root

import (
	"strings"

	"sacristy/api"
	"sacristy/num"
	"sacristy/refs"
)

// Words of lines.
const (
	netWord    = "net"
	poolWord   = "pool"
	forksWord  = "forks"
	forkWord   = "fork"
	linkedWord = "linked"
	aloneWord  = "alone"
)

// write is the lines of a root that is right.
func write(r api.Root) []byte {
	var b []byte
	say := func(words ...string) {
		b = append(b, strings.Join(words, " ")+"\n"...)
	}
	sayEach := func(packs []string) {
		for _, id := range packs {
			say(id)
		}
	}

	say(netWord, num.Text(r.Count))
	say(poolWord, num.Text(len(r.Pool)))
	sayEach(r.Pool)
	say(forksWord, num.Text(len(r.Forks)))
	for _, f := range r.Forks {
		say(forkWord, f.Name, bond(f.Linked), f.Head, num.Text(len(f.Refs)), num.Text(len(f.Packs)))
		lines, _ := refs.Put(f.Refs) // they are right
		b = append(b, lines...)
		sayEach(f.Packs)
	}
	return b
}

func bond(linked bool) string {
	if linked {
		return linkedWord
	}
	return aloneWord
}
