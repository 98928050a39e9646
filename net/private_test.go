package net_test

import (
	"bytes"
	"math/rand"
	"slices"
	"testing"

	"sacristy/api"
	"sacristy/net"
)

// T2, P14.3: whoever talks to others is answered alike, whatever is done to a fork of which no other one is made.
func TestPrivate(t *testing.T) {
	met := map[string]int{}
	for seed := range int64(60) {
		r := rand.New(rand.NewSource(seed))
		p := &script{r: r, all: universe(r), met: met}
		_, p.n = fresh(t)
		_, q := fresh(t)
		for _, name := range []string{"a", "b", "c", "z"} {
			ok(t, p.n.Create(name, ""))
			if name != "z" {
				ok(t, q.Create(name, ""))
			}
		}
		for range 150 {
			p.private(t, q)
		}
	}
	for _, what := range []string{"to z ", "push ", "fetch ", "create ", "feed ", "prune "} {
		if met[what+api.OK.Error()] < 50 {
			t.Error("too few of", what, met)
		}
	}
}

// private does one thing to z in the one net, or to another one in both.
func (p *script) private(t *testing.T, q *net.Net) {
	t.Helper()
	change := p.some(p.one("a", "b", "c", "z", "z"))
	e, b := change.do(p.n)
	if change.name == "z" {
		p.met["to z "+e.Error()]++
		return
	}
	f, c := change.do(q)
	p.met[change.what+" "+e.Error()]++
	if e != f || !bytes.Equal(b, c) {
		t.Fatal(change.what, change.name, e, f)
	}
	for _, name := range []string{"a", "b", "c"} {
		l, e := p.n.Held(name)
		m, f := q.Held(name)
		if e != f || !slices.Equal(l, m) {
			t.Fatal(change.what, change.name, name, e, f)
		}
	}
}

// deed is something that can be done to more than one net.
type deed struct {
	what, name string
	do         func(n *net.Net) (api.Errno, []byte)
}

// some is something to be done to a fork; the pool is packed anew often enough for there to be room.
func (p *script) some(name string) deed {
	simple := func(what string, do func(n *net.Net) api.Errno) deed {
		return deed{what, name, func(n *net.Net) (api.Errno, []byte) { return do(n), nil }}
	}
	switch k := p.r.Intn(100); {
	case k < 10:
		with := p.one("", "a", "b")
		return simple("create", func(n *net.Net) api.Errno { return n.Create(name, with) })
	case k < 14:
		return simple("delete", func(n *net.Net) api.Errno { return n.Delete(name) })
	case k < 17:
		return simple("detach", func(n *net.Net) api.Errno { return n.Detach(name) })
	case k < 25:
		return simple("feed", func(n *net.Net) api.Errno { return n.Feed(name) })
	case k < 32:
		return simple("repack", func(n *net.Net) api.Errno { return n.Repack(name) })
	case k < 38:
		return simple("repack", func(n *net.Net) api.Errno { return n.Repack("") })
	case k < 44:
		return simple("prune", func(n *net.Net) api.Errno { return n.Prune() })
	case k < 75:
		u := p.updates(name)
		b := p.bytes(name, u)
		return simple("push", func(n *net.Net) api.Errno { e, at := n.Push(name, u, b); return e + api.Errno(1000*at) })
	default:
		wants, haves := p.tips(name), p.tips(name)
		return deed{"fetch", name, func(n *net.Net) (api.Errno, []byte) {
			b, e := n.Fetch(name, wants, haves)
			return e, b
		}}
	}
}
