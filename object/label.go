package object

import "sacristy/api"

func writeLabel(l api.Label) (string, error) {
	if err := checkLabel(l); err != nil {
		return "", err
	}
	return "object " + l.Id + "\nkind " + word(l.Kind) + "\nname " + l.Name + "\n\n" + l.Text, nil
}

func readLabel(s string) (api.Label, error) {
	var l api.Label
	var kind string
	rest, err := read(s, line("object ", &l.Id), line("kind ", &kind), line("name ", &l.Name), past("\n"))
	if err != nil {
		return api.Label{}, err
	}
	l.Kind = kindOf(kind)
	l.Text = rest
	return l, checkLabel(l)
}

func checkLabel(l api.Label) error {
	if err := checkName(l.Id); err != nil {
		return err
	}
	if word(l.Kind) == "" {
		return &fault{"kind", errWrong}
	}
	return checkPart(l.Name)
}

func labelWants(s string) ([]api.Want, error) {
	l, err := readLabel(s)
	return []api.Want{{Id: l.Id, Kind: l.Kind}}, err
}
