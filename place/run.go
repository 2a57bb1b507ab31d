package place

import (
	"munch/api"
	"munch/pattern"
)

// run is what is known of a part of a pattern when its places are laid into the net: whether it matches the empty text, and the places with which the words that it matches begin and end.
type run struct {
	empty bool
	first Group
	last  Group
}

// nothing matches the empty text alone.
func nothing() run { return run{empty: true} }

// place lays a new place into the net. Check has seen to it that there is room.
func (n *Net) place(has pattern.Set) run {
	var one run
	p := len(n.Has)
	if p >= api.MaxPlaces {
		return nothing()
	}
	n.Has = append(n.Has, has)
	n.Behind = append(n.Behind, Next{})
	one.first[p] = true
	one.last[p] = true
	return one
}

// link notes that each place of first may stand behind each one of last.
func (n *Net) link(last Group, first Group) {
	for p := 0; p < len(n.Behind); p++ {
		if last[p] {
			n.Behind[p].Places = n.Behind[p].Places.with(first)
		}
	}
}

// joined is a, and b behind it.
func (n *Net) joined(a run, b run) run {
	n.link(a.last, b.first)
	all := run{empty: a.empty && b.empty, first: a.first, last: b.last}
	if a.empty {
		all.first = a.first.with(b.first)
	}
	if b.empty {
		all.last = b.last.with(a.last)
	}
	return all
}

// either is a or b.
func either(a run, b run) run {
	all := run{empty: a.empty || b.empty}
	all.first = a.first.with(b.first)
	all.last = a.last.with(b.last)
	return all
}
