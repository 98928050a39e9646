package delta

import "iter"

// least is how long a copy has to be.
const least = 5

// match is a part of a text that the base has too: where it is in the text, where in the base, and how long it is.
type match struct {
	at    int
	from  int
	count int
}

// matches tells, from the front of a text, what is copied of its base.
func matches(base string, text string) iter.Seq[match] {
	return func(yield func(match) bool) {
		graph := graphOf(base)
		for at := 0; at+least <= len(text); {
			from, count := graph.longest(text[at:])
			if count < least {
				at++
				continue
			}
			if !yield(match{at, from, count}) {
				return
			}
			at += count
		}
	}
}
