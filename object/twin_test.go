package object_test

import (
	"crypto/sha256"
	"encoding/hex"
	"regexp"
	"slices"
	"strconv"
	"strings"

	"sacristy/api"
)

// The forms of the chapter, told once more by patterns; what these can't tell (that items rise, and that no two are one) stands beside them.
var (
	treeForm   = regexp.MustCompile(`^(?s:([123]) ([!-.0-~]{1,70})\x00([0-9a-f]{64}))*$`)
	itemForm   = regexp.MustCompile(`([123]) ([!-.0-~]{1,70})\x00([0-9a-f]{64})`)
	changeForm = regexp.MustCompile(`^tree ([0-9a-f]{64})\n((?:parent [0-9a-f]{64}\n){0,8})who ([ -~]{0,100})\n\n((?s:.*))$`)
	labelForm  = regexp.MustCompile(`^object ([0-9a-f]{64})\nkind (blob|tree|commit|tag)\nname ([!-.0-~]{1,70})\n\n((?s:.*))$`)
)

var kinds = []string{"", "blob", "tree", "commit", "tag"}

func twinTree(s string) ([]api.Item, bool) {
	if !treeForm.MatchString(s) {
		return nil, false
	}
	var l []api.Item
	var keys []string
	names := map[string]bool{}
	for _, m := range itemForm.FindAllStringSubmatch(s, -1) {
		mode, _ := strconv.Atoi(m[1])
		l = append(l, api.Item{Mode: mode, Name: m[2], Id: m[3]})
		key := m[2]
		if mode == 3 {
			key += "/"
		}
		if m[2] == "." || m[2] == ".." || names[m[2]] {
			return nil, false
		}
		keys = append(keys, key)
		names[m[2]] = true
	}
	if !slices.IsSorted(keys) || len(l) > 256 {
		return nil, false
	}
	return l, true
}

func twinChange(s string) (api.Change, bool) {
	m := changeForm.FindStringSubmatch(s)
	if m == nil {
		return api.Change{}, false
	}
	c := api.Change{Tree: m[1], Who: m[3], Text: m[4]}
	for p := range strings.Lines(m[2]) {
		id := strings.TrimSuffix(strings.TrimPrefix(p, "parent "), "\n")
		if slices.Contains(c.Parents, id) {
			return api.Change{}, false
		}
		c.Parents = append(c.Parents, id)
	}
	return c, true
}

func twinLabel(s string) (api.Label, bool) {
	m := labelForm.FindStringSubmatch(s)
	if m == nil || m[3] == "." || m[3] == ".." {
		return api.Label{}, false
	}
	return api.Label{Id: m[1], Kind: slices.Index(kinds, m[2]), Name: m[3], Text: m[4]}, true
}

// twinWants is what an object names, and whether it is right.
func twinWants(o api.Obj) ([]api.Want, bool) {
	var l []api.Want
	is := false
	switch o.Kind {
	case 1:
		is = true
	case 2:
		var items []api.Item
		items, is = twinTree(o.Data)
		for _, it := range items {
			l = append(l, api.Want{Id: it.Id, Kind: map[int]int{1: 1, 2: 1, 3: 2}[it.Mode]})
		}
	case 3:
		var c api.Change
		c, is = twinChange(o.Data)
		l = append(l, api.Want{Id: c.Tree, Kind: 2})
		for _, p := range c.Parents {
			l = append(l, api.Want{Id: p, Kind: 3})
		}
	case 4:
		var b api.Label
		b, is = twinLabel(o.Data)
		l = append(l, api.Want{Id: b.Id, Kind: b.Kind})
	}
	if !is || len(o.Data) > 65536 {
		return nil, false
	}
	return l, true
}

func twinId(o api.Obj) string {
	if _, is := twinWants(o); !is {
		return ""
	}
	sum := sha256.Sum256([]byte(kinds[o.Kind] + " " + strconv.Itoa(len(o.Data)) + "\n" + o.Data))
	return hex.EncodeToString(sum[:])
}
