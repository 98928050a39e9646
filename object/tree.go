package object

import (
	"strings"

	"sacristy/api"
	"sacristy/num"
)

const nameSize = 64

func writeTree(l []api.Item) (string, error) {
	if err := checkTree(l); err != nil {
		return "", err
	}
	var b strings.Builder
	for _, it := range l {
		b.WriteString(num.Text(it.Mode) + " " + it.Name + "\x00" + it.Id)
	}
	return b.String(), nil
}

func readTree(s string) ([]api.Item, error) {
	var l []api.Item
	// One item too many is read, and refused below with the others.
	for s != "" && len(l) <= api.MaxItems {
		it, rest, err := readItem(s)
		if err != nil {
			return nil, &fault{item(len(l)), err}
		}
		l = append(l, it)
		s = rest
	}
	return l, checkTree(l)
}

func readItem(s string) (api.Item, string, error) {
	var it api.Item
	var mode string
	rest, err := read(s, some(1, &mode), past(" "), until("\x00", &it.Name), some(nameSize, &it.Id))
	if err != nil {
		return api.Item{}, "", err
	}
	it.Mode = int(mode[0]) - '0'
	return it, rest, nil
}

func checkTree(l []api.Item) error {
	if len(l) > api.MaxItems {
		return &fault{"items", errOver}
	}
	var names []string
	for i, it := range l {
		if err := checkItem(it); err != nil {
			return &fault{item(i), err}
		}
		if i > 0 && standing(l[i-1]) >= standing(it) {
			return &fault{item(i), errWrong}
		}
		names = append(names, it.Name)
	}
	// That they rise is not enough: of a file and a directory of one name another item may stand between.
	return within("items", checkOnce(names))
}

func checkItem(it api.Item) error {
	if it.Mode < api.Plain || it.Mode > api.Dir {
		return &fault{"mode", errWrong}
	}
	if err := checkPart(it.Name); err != nil {
		return err
	}
	return checkName(it.Id)
}

// standing is the text by which items rise.
func standing(it api.Item) string {
	if it.Mode == api.Dir {
		return it.Name + "/"
	}
	return it.Name
}

func item(i int) string { return "item " + num.Text(i) }

func treeWants(s string) ([]api.Want, error) {
	items, err := readTree(s)
	var l []api.Want
	for _, it := range items {
		kind := api.Blob
		if it.Mode == api.Dir {
			kind = api.Tree
		}
		l = append(l, api.Want{Id: it.Id, Kind: kind})
	}
	return l, err
}
