package island

import (
	"sacristy/api"
	"sacristy/delta"
)

// plan is objects that are made entries: their marks, the depths of those that are made, and the depth that none is above.
type plan struct {
	l      []api.Held
	marks  []int
	depths []int
	most   int
}

// seek is what an entry is best made of: how many places ahead that is, and the delta; 0, if none is shorter than the object's bytes. It goes from the nearest to the first, as of several that are as short the nearest one counts.
func (p *plan) seek(at int) (int, string) {
	text := p.l[at].Obj.Data
	back, best := 0, text
	enough := least(len(text))
seek:
	for n := range at {
		from := at - 1 - n
		switch {
		case len(best) <= enough:
			break seek
		case p.carries(from, at):
			if d := delta.Make(p.l[from].Obj.Data, text); len(d) < len(best) {
				back, best = at-from, d
			}
		}
	}
	return back, best
}

// carries tells whether an entry may stand on one ahead of it.
func (p *plan) carries(from int, at int) bool {
	return p.l[from].Obj.Kind == p.l[at].Obj.Kind && holds(p.marks[from], p.marks[at]) && p.depths[from] < p.most
}

// holds tells whether a mark has all bits that another one has.
func holds(mark int, other int) bool { return mark&other == other }

// least is how long a delta is at least, if it is shorter than its text: two lengths and one copy, from 0 on, of all of it. (Of a base whose length has a digit less, the copy's count may have one less too; but then something of the text is left, which costs two bytes or more.)
func least(length int) int {
	digits := 1
	for ; length >= 128; length /= 128 {
		digits++
	}
	lengths, copied := 2*digits, 1+1+digits
	return lengths + copied
}
