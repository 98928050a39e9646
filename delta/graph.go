package delta

// graph has all that its base has as ways from its first state, along edges, by a byte each (a suffix automaton). To make it and to go along it takes no more steps than some for each byte, however often the base says the same.
type graph struct {
	states []state
	edges  []edge // that of the number 0 stands for none
	first  [256]int32
}

// state is where the ways of some parts of the base end: those that end at the same places there.
type state struct {
	longest int32 // how long the longest of these parts is
	end     int32 // the first of these places
	wider   int32 // the state of the longest part that they all end with, and that ends at more places
	edge    int32 // the last edge that was put here; of the first state none, as its edges are found by their bytes
}

// edge leads from its state to that of the same parts with a byte more.
type edge struct {
	by    byte
	to    int32
	other int32 // the edge of the same state that was put ahead of it
}

const (
	start  = 0  // the first state
	beyond = -1 // what is wider than the first state
)

func graphOf(base string) *graph {
	// There are never more states and edges than that.
	g := &graph{states: make([]state, 0, 2*len(base)+1), edges: make([]edge, 1, 3*len(base)+1)}
	last := g.put(state{wider: beyond})
	for i := range len(base) {
		last = g.grow(last, base[i])
	}
	return g
}

// put puts a state there, and answers its number.
func (g *graph) put(s state) int32 {
	g.states = append(g.states, s)
	return int32(len(g.states) - 1)
}

// edge is a state's edge by a byte.
func (g *graph) edge(from int32, by byte) int32 {
	if from == start {
		return g.first[by]
	}
	e := g.states[from].edge
	for e != 0 && g.edges[e].by != by {
		e = g.edges[e].other
	}
	return e
}

// join puts an edge there.
func (g *graph) join(from int32, by byte, to int32) {
	e := int32(len(g.edges))
	g.edges = append(g.edges, edge{by, to, g.states[from].edge})
	if from == start {
		g.first[by] = e
	} else {
		g.states[from].edge = e
	}
}

// grow has the base be a byte longer: last is the state of all that was there, and it answers that of all that is.
func (g *graph) grow(last int32, by byte) int32 {
	end := g.states[last].longest + 1
	whole := g.put(state{longest: end, end: end})
	for at := last; at != beyond; at = g.states[at].wider {
		if e := g.edge(at, by); e != 0 {
			g.states[whole].wider = g.apart(at, e)
			break
		}
		g.join(at, by, whole)
	}
	return whole
}

// apart is the state of a state's longest part, and the byte of its edge. If longer ones lead to the same state, these end at fewer places from now on: it is split.
func (g *graph) apart(at int32, e int32) int32 {
	by, old := g.edges[e].by, g.edges[e].to
	split := g.states[old]
	if split.longest == g.states[at].longest+1 {
		return old
	}
	split.longest = g.states[at].longest + 1
	split.edge = 0
	short := g.put(split)
	for e := g.states[old].edge; e != 0; e = g.edges[e].other {
		g.join(short, g.edges[e].by, g.edges[e].to)
	}
	g.states[old].wider = short
	for ; at != beyond; at = g.states[at].wider {
		e := g.edge(at, by)
		if g.edges[e].to != old {
			break
		}
		g.edges[e].to = short
	}
	return short
}

// longest goes along a text, as far as the base has its beginning: it answers where that is there first, and how long it is.
func (g *graph) longest(text string) (int, int) {
	at, n := int32(start), 0
	for n < len(text) {
		e := g.edge(at, text[n])
		if e == 0 {
			break
		}
		at = g.edges[e].to
		n++
	}
	return int(g.states[at].end) - n, n
}
