package island_test

import (
	"math/rand"
	"slices"
	"strings"

	"sacristy/api"
	"sacristy/object"
)

// name is that of a letter: 64 times it. Names of 0 to 9, a to f may stand in objects.
func name(letter byte) string { return strings.Repeat(string([]byte{letter}), 64) }

// names are those of letters.
func names(letters string) []string {
	var l []string
	for i := range len(letters) {
		l = append(l, name(letters[i]))
	}
	return l
}

// rows are names by letters, a word each row; `-` is an empty one.
func rows(s string) [][]string {
	var l [][]string
	for _, w := range strings.Fields(s) {
		l = append(l, names(strings.Trim(w, "-")))
	}
	return l
}

// thing is the object that a word says: `B` a blob, with any text behind; `T` a tree, with a mode and a letter of each item; `C` a commit, with the letters of its tree and its parents; `G` a tag, with a letter and a kind; `!` is one that is not right.
func thing(word string) api.Obj {
	rest := word[1:]
	var data string
	is := true
	kind := strings.IndexByte("!BTCG", word[0])
	switch kind {
	case api.Tree:
		var items []api.Item
		for i := 0; i < len(rest); i += 2 {
			items = append(items, api.Item{Mode: int(rest[i] - '0'), Name: string([]byte{'a' + byte(i)}), Id: name(rest[i+1])})
		}
		data, is = object.PutTree(items)
	case api.Commit:
		data, is = object.PutChange(api.Change{Tree: name(rest[0]), Parents: names(rest[1:])})
	case api.Tag:
		data, is = object.PutLabel(api.Label{Id: name(rest[0]), Kind: int(rest[1] - '0'), Name: "v"})
	case api.Blob:
		data = rest
	default:
		// All but the end of a commit.
		kind, data = api.Commit, "tree "+name('0')+"\n"
	}
	if !is {
		panic(word)
	}
	return api.Obj{Kind: kind, Data: data}
}

// world are objects by letters, in order: `a=B b=T1a` are a blob, and a tree that has it as a file. An object need not have its own name, so that any of them may name any other one.
func world(s string) []api.Held {
	var l []api.Held
	for _, w := range strings.Fields(s) {
		id, what, _ := strings.Cut(w, "=")
		l = append(l, api.Held{Id: name(id[0]), Obj: thing(what)})
	}
	return l
}

const all = "0123456789ab"

// anyWorld is a world in which objects name any letters as anything.
func anyWorld(r *rand.Rand) string {
	at := func(l string) string { i := r.Intn(len(l)); return l[i : i+1] }
	var l []string
	for range r.Intn(30) {
		var w string
		switch r.Intn(6) {
		case 0, 1:
			w = "B" + at(all)
		case 2, 3:
			w = "T"
			for range r.Intn(3) {
				w += at("123") + at(all)
			}
		case 4:
			w = "C" + at(all)
			for _, i := range r.Perm(len(all))[:r.Intn(3)] {
				w += all[i : i+1]
			}
		default:
			w = "G" + at(all) + at("1234")
			if r.Intn(9) == 0 {
				w = "!"
			}
		}
		l = append(l, at(all)+"="+w)
	}
	return strings.Join(l, " ")
}

// some are up to n letters of those.
func some(r *rand.Rand, of string, n int) string {
	var b strings.Builder
	for range r.Intn(n + 1) {
		b.WriteByte(of[r.Intn(len(of))])
	}
	return b.String()
}

// blobs are those of texts, by their names, in the order of the texts.
func blobs(texts ...string) []api.Held {
	var l []api.Held
	for _, s := range texts {
		o := api.Obj{Kind: api.Blob, Data: s}
		l = append(l, api.Held{Id: object.Id(o), Obj: o})
	}
	return l
}

// kinds has objects be of other kinds, a digit each.
func kinds(l []api.Held, digits string) []api.Held {
	out := slices.Clone(l)
	for i := range out {
		out[i].Obj.Kind = int(digits[i] - '0')
	}
	return out
}

// history are the objects of commits of a file that grows, each commit on the one ahead of it; and the commits' names.
func history(first string, lines []string, parents ...string) ([]api.Obj, []string) {
	var objs []api.Obj
	var tips []string
	for _, line := range lines {
		first += line + "\n"
		blob := api.Obj{Kind: api.Blob, Data: first}
		s, _ := object.PutTree([]api.Item{{Mode: api.Plain, Name: "file", Id: object.Id(blob)}})
		tree := api.Obj{Kind: api.Tree, Data: s}
		s, _ = object.PutChange(api.Change{Tree: object.Id(tree), Parents: parents, Who: "me", Text: "Add " + line})
		commit := api.Obj{Kind: api.Commit, Data: s}
		objs = append(objs, blob, tree, commit)
		parents = []string{object.Id(commit)}
		tips = append(tips, parents[0])
	}
	return objs, tips
}
