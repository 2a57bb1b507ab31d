package machine

import (
	"munch/api"
	"munch/place"
)

// graph holds the next sets of all texts, but for the one with neither a place nor a rule, in the order in which they are come upon: the shorter texts first, and equally long ones in the order of their bytes. At set * kinds + kind, to has the set to which a byte of that kind leads, or None.
type graph struct {
	kinds int
	sets  []place.Next
	to    []int
}

// number answers which set this is: a new one, if it is not among the sets yet; None, if it has neither a place nor a rule.
func (g *graph) number(set place.Next) int {
	if set == (place.Next{}) {
		return api.None
	}
	for s := 0; s < len(g.sets); s++ {
		if g.sets[s] == set {
			return s
		}
	}
	g.sets = append(g.sets, set)
	return len(g.sets) - 1
}

// explore answers all next sets; or ErrSets. It ends, as it stops at the first set that is one too many.
func explore(net *place.Net, least []byte) (graph, api.Errno) {
	g := graph{kinds: len(least)}
	g.sets = append(g.sets, net.First)
	for s := 0; s < len(g.sets); s++ {
		for _, b := range least {
			set := net.After(g.sets[s], b)
			to := g.number(set)
			if to >= api.MaxSets {
				return graph{}, api.ErrSets
			}
			g.to = append(g.to, to)
		}
	}
	return g, api.OK
}
