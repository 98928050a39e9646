package shelf

// table is files' bytes, by their paths. The bytes are never changed in place: the files as they are and as they were synced share them, and loose acts do.
type table map[string][]byte

// size is how many bytes all files have.
func (t table) size() int {
	n := 0
	for _, data := range t {
		n += len(data)
	}
	return n
}

// act is one that may be lost: its directory, and how it is played on files.
type act struct {
	dir  string
	play func(files table)
}

func write(path string, data []byte) func(table) {
	return func(files table) { files[path] = data }
}

func rename(from string, to string) func(table) {
	return func(files table) {
		data, there := files[from]
		if !there { // the act that made it was lost
			return
		}
		// In this order a rename of a path to itself changes nothing.
		delete(files, from)
		files[to] = data
	}
}

func remove(path string) func(table) {
	return func(files table) { delete(files, path) }
}
