package object

import (
	"sacristy/api"
	"sacristy/digest"
	"sacristy/num"
)

// word is that of a kind; nothing, if there is no such kind.
func word(kind int) string {
	switch kind {
	case api.Blob:
		return "blob"
	case api.Tree:
		return "tree"
	case api.Commit:
		return "commit"
	case api.Tag:
		return "tag"
	}
	return ""
}

// kindOf is the kind of a word; 0, if there is none.
func kindOf(w string) int {
	for kind := api.Blob; kind <= api.Tag; kind++ {
		if word(kind) == w {
			return kind
		}
	}
	return 0
}

// wants are the names that an object names, if it is a right one: a blob's bytes are any, as many as may be, the others' have a form beside.
func wants(o api.Obj) ([]api.Want, error) {
	var l []api.Want
	var err error
	switch o.Kind {
	case api.Tree, api.Commit, api.Tag:
		if l, err = formWants(o); err != nil {
			break
		}
		fallthrough
	case api.Blob:
		err = need(len(o.Data) <= api.MaxData, "data", errOver)
	default:
		err = &fault{"kind", errWrong}
	}
	return l, within(word(o.Kind), err)
}

// formWants are those of one that is no blob.
func formWants(o api.Obj) ([]api.Want, error) {
	switch o.Kind {
	case api.Tree:
		return treeWants(o.Data)
	case api.Commit:
		return changeWants(o.Data)
	default:
		return labelWants(o.Data)
	}
}

// name is that of an object, if it is a right one.
func name(o api.Obj) (string, error) {
	if _, err := wants(o); err != nil {
		return "", err
	}
	return digest.Name([]byte(word(o.Kind) + " " + num.Text(len(o.Data)) + "\n" + o.Data)), nil
}
