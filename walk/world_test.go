package walk_test

import (
	"math/rand"
	"slices"
	"strings"

	"sacristy/api"
	"sacristy/object"
)

// name is that of a letter: 64 times it. Names of 0 to 9, a to f may stand in objects.
func name(letter byte) string { return strings.Repeat(string([]byte{letter}), 64) }

// names are those of letters; letters goes back.
func names(letters string) []string {
	var l []string
	for i := range len(letters) {
		l = append(l, name(letters[i]))
	}
	return l
}

func letters(l []string) string {
	var b strings.Builder
	for _, id := range l {
		if len(id) != 64 || id != name(id[0]) {
			return "no name: " + id
		}
		b.WriteByte(id[0])
	}
	return b.String()
}

// thing is the object that a word says: `B` a blob, with any text behind; `T` a tree, with a mode and a letter of each item; `C` a commit, with the letters of its tree and its parents; `G` a tag, with a letter and a kind; `!` and any other kind than 1 is one that is not right.
func thing(word string) api.Obj {
	rest := word[1:]
	var data string
	is := true
	kind := strings.IndexByte("!BTCG", word[0])
	switch kind {
	case api.Blob:
		data = rest
	case api.Tree:
		var items []api.Item
		for i := 0; i < len(rest); i += 2 {
			items = append(items, api.Item{Mode: int(rest[i] - '0'), Name: string([]byte{'a' + byte(i)}), Id: name(rest[i+1])})
		}
		data, is = object.PutTree(items)
	case api.Commit:
		data, is = object.PutChange(api.Change{Tree: name(rest[0]), Parents: names(rest[1:])})
	case api.Tag:
		data, is = object.PutLabel(api.Label{Id: name(rest[0]), Kind: int(rest[1] - '0'), Name: "v"})
	default:
		// All but the end of a commit.
		kind, data = int(rest[0]-'0'), "tree "+name('a')+"\nparent "+name('b')+"\n"
	}
	if !is {
		panic(word)
	}
	return api.Obj{Kind: kind, Data: data}
}

// world are objects by letters, in order: `a=B b=T1a` are a blob, and a tree that has it as a file. An object need not have its own name, so that any of them may name any other one.
func world(s string) []api.Held {
	var l []api.Held
	for _, w := range strings.Fields(s) {
		id, what, _ := strings.Cut(w, "=")
		l = append(l, api.Held{Id: name(id[0]), Obj: thing(what)})
	}
	return l
}

const all = "0123456789ab"

// anyWorld is a world in which objects name any letters as anything.
func anyWorld(r *rand.Rand) string {
	at := func(l string) string { i := r.Intn(len(l)); return l[i : i+1] }
	var l []string
	for range r.Intn(16) {
		var w string
		switch r.Intn(9) {
		case 0, 1:
			w = "B" + at(all)
		case 2, 3, 4:
			w = "T"
			for range r.Intn(4) {
				w += at("123") + at(all)
			}
		case 5, 6:
			w = "C" + at(all)
			for _, i := range r.Perm(len(all))[:r.Intn(3)] {
				w += all[i : i+1]
			}
		case 7:
			w = "G" + at(all) + at("1234")
		default:
			w = "!" + at("0234569")
		}
		l = append(l, at(all)+"="+w)
	}
	return strings.Join(l, " ")
}

// soundWorld is one in which 0, 1, 2 are blobs, 3, 4, 5 trees, 6, 7, 8 commits, 9, a, b tags, and most name as they should; few are lacking.
func soundWorld(r *rand.Rand) string {
	at := func(l string) string { i := r.Intn(len(l)); return l[i : i+1] }
	var l []string
	for i, letter := range all {
		var w string
		switch i / 3 {
		case 0:
			w = "B"
		case 1:
			w = "T" + at("12") + at("012")
			if r.Intn(3) == 0 {
				w += "3" + at("345")
			}
		case 2:
			w = "C" + at("345")
			for _, i := range r.Perm(3)[:r.Intn(3)] {
				w += "678"[i : i+1]
			}
		default:
			kind := r.Intn(4)
			w = "G" + at(all[3*kind:][:3]) + "1234"[kind:kind+1]
		}
		if r.Intn(10) == 0 {
			w = "T" + at("123") + at(all)
		}
		if r.Intn(40) > 0 {
			l = append(l, string(letter)+"="+w)
		}
	}
	r.Shuffle(len(l), func(i, j int) { l[i], l[j] = l[j], l[i] })
	return strings.Join(l, " ")
}

// some are up to n letters of those.
func some(r *rand.Rand, of string, n int) string {
	var b strings.Builder
	for range r.Intn(n + 1) {
		b.WriteByte(of[r.Intn(len(of))])
	}
	return b.String()
}

// said is a list as Join, Find and Pick are tried with: `a1 b2` are two blobs, of the Ids a and b, with the bytes 1 and 2; the Id of `-1` is empty.
func said(s string) []api.Held {
	var l []api.Held
	for _, w := range strings.Fields(s) {
		h := api.Held{Id: w[:1], Obj: api.Obj{Kind: api.Blob, Data: w[1:]}}
		if h.Id == "-" {
			h.Id = ""
		}
		l = append(l, h)
	}
	return l
}

// ids are those of a list likewise.
func ids(s string) []string {
	var l []string
	for _, h := range said(s) {
		l = append(l, h.Id)
	}
	return l
}

// union are the names of both, rising, each once.
func union(a, b []string) []string {
	return slices.Compact(slices.Sorted(slices.Values(slices.Concat(a, b))))
}
