// Package place writes patterns out, and tells which of their places may stand behind which.
package place

import (
	"munch/api"
	"munch/pattern"
)

// Group tells of each place whether it is in the group.
type Group [api.MaxPlaces]bool

// Next is a next set: of each place and of each rule it tells whether that is in it.
type Next struct {
	Places Group
	Rules  [api.MaxRules]bool
}

// Net holds the places of all patterns of a list, written out. Has: of each place the bytes that it matches. Behind: of each place what may stand directly behind it, and the rule, if the pattern may end there. First: the next set of the empty text.
type Net struct {
	Has    []pattern.Set
	Behind []Next
	First  Next
}

func (g Group) with(other Group) Group {
	for p := 0; p < len(g); p++ {
		g[p] = g[p] || other[p]
	}
	return g
}

// with answers what is in n or in other.
func (n Next) with(other Next) Next {
	n.Places = n.Places.with(other.Places)
	for r := 0; r < len(n.Rules); r++ {
		n.Rules[r] = n.Rules[r] || other.Rules[r]
	}
	return n
}

// After answers the next set of a text with the byte b behind it; before is that of the text alone. No more of the text need be known: as each place is a letter of its own, what may stand behind a letter hangs on no letter ahead of it.
func (n *Net) After(before Next, b byte) Next {
	var after Next
	for p := 0; p < len(n.Has); p++ {
		if before.Places[p] && n.Has[p][b] {
			after = after.with(n.Behind[p])
		}
	}
	return after
}

// add lays the pattern of a rule into the net.
func (n *Net) add(parts []pattern.Part, rule int) {
	all := n.whole(parts)
	n.First.Places = n.First.Places.with(all.first)
	n.First.Rules[rule] = all.empty
	for p := 0; p < len(n.Behind); p++ {
		if all.last[p] {
			n.Behind[p].Rules[rule] = true
		}
	}
}

// Of answers the net of a list of patterns; or the error of Check.
func Of(patterns []string) (Net, api.Errno) {
	var n Net
	e, _, _ := pattern.Check(patterns)
	if e != api.OK {
		return n, e
	}
	for rule, p := range patterns {
		parts, _, _ := pattern.Parse(p)
		n.add(parts, rule)
	}
	return n, api.OK
}
