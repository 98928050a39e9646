package object

import (
	"strings"

	"sacristy/api"
)

func writeChange(c api.Change) (string, error) {
	if err := checkChange(c); err != nil {
		return "", err
	}
	var b strings.Builder
	b.WriteString("tree " + c.Tree + "\n")
	for _, id := range c.Parents {
		b.WriteString("parent " + id + "\n")
	}
	b.WriteString("who " + c.Who + "\n\n")
	b.WriteString(c.Text)
	return b.String(), nil
}

func readChange(s string) (api.Change, error) {
	var c api.Change
	rest, err := read(s, line("tree ", &c.Tree), lines("parent ", api.MaxParents, &c.Parents), line("who ", &c.Who), past("\n"))
	if err != nil {
		return api.Change{}, err
	}
	c.Text = rest
	return c, checkChange(c)
}

func checkChange(c api.Change) error {
	if err := checkName(c.Tree); err != nil {
		return within("tree", err)
	}
	if err := checkParents(c.Parents); err != nil {
		return within("parents", err)
	}
	return checkWho(c.Who)
}

func checkParents(l []string) error {
	if len(l) > api.MaxParents {
		return &fault{"count", errOver}
	}
	for _, id := range l {
		if err := checkName(id); err != nil {
			return err
		}
	}
	return checkOnce(l)
}

func changeWants(s string) ([]api.Want, error) {
	c, err := readChange(s)
	l := []api.Want{{Id: c.Tree, Kind: api.Tree}}
	for _, id := range c.Parents {
		l = append(l, api.Want{Id: id, Kind: api.Commit})
	}
	return l, err
}
