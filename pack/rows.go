package pack

import "munch/api"

// rows holds the rows of a sound machine, one behind the other.
type rows struct {
	classes int
	next    []int
}

// lead answers where a class leads from a state. From None it leads to None, so that a state that falls back on nothing is compared as one that falls back on another.
func (r *rows) lead(state int, class int) int {
	if state == api.None {
		return api.None
	}
	return r.next[state*r.classes+class]
}

// differing answers the classes that lead elsewhere from the one state than from the other.
func (r *rows) differing(s int, d int) []int {
	var classes []int
	for c := 0; c < r.classes; c++ {
		fromS := r.lead(s, c)
		fromD := r.lead(d, c)
		if fromS != fromD {
			classes = append(classes, c)
		}
	}
	return classes
}

// nearest answers the Def of a state, and the classes that are then its own.
func (r *rows) nearest(s int) (int, []int) {
	def := api.None
	own := r.differing(s, api.None)
	for d := 0; d < s; d++ {
		classes := r.differing(s, d)
		if len(classes) < len(own) {
			def = d
			own = classes
		}
	}
	return def, own
}
