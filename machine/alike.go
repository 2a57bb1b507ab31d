package machine

import (
	"munch/api"
	"munch/place"
)

// sorting sorts next sets into groups: of holds the group of each set, first the first set of each group. The groups are numbered in the order of their first sets.
type sorting struct {
	of    []int
	first []int
}

// verdict answers the least rule of a next set, or None.
func verdict(set *place.Next) int {
	for r := 0; r < len(set.Rules); r++ {
		if set.Rules[r] {
			return r
		}
	}
	return api.None
}

// groupAt answers the group to which a kind of byte leads from a set, or None. No group is None: the texts of a next set are never dead, as each place has a byte, and stands in a word that its pattern matches.
func (g *graph) groupAt(of []int, set int, kind int) int {
	to := g.to[set*g.kinds+kind]
	if to == api.None {
		return api.None
	}
	return of[to]
}

// together tells whether two sets are in one group and each kind of byte leads from both to one group.
func (g *graph) together(of []int, a int, b int) bool {
	if of[a] != of[b] {
		return false
	}
	for kind := 0; kind < g.kinds; kind++ {
		fromA := g.groupAt(of, a, kind)
		fromB := g.groupAt(of, b, kind)
		if fromA != fromB {
			return false
		}
	}
	return true
}

// finer parts the sets of a group that one byte tells apart.
func (g *graph) finer(of []int) sorting {
	var s sorting
	for set := 0; set < len(of); set++ {
		group := 0
		for group < len(s.first) && !g.together(of, s.first[group], set) {
			group++
		}
		if group == len(s.first) {
			s.first = append(s.first, set)
		}
		s.of = append(s.of, group)
	}
	return s
}

// alike sorts the next sets into those whose texts are alike. It ends, as there are never more groups than sets.
func (g *graph) alike() sorting {
	var s sorting
	for i := 0; i < len(g.sets); i++ {
		rule := verdict(&g.sets[i])
		s.of = append(s.of, rule+1) // not None, which is for dead texts
	}
	groups := api.None
	for groups < len(s.first) {
		groups = len(s.first)
		s = g.finer(s.of)
	}
	return s
}
