// Package machine makes the least machine of a list of patterns.
package machine

import (
	"munch/api"
	"munch/place"
)

// rowsOf answers, state by state and in each kind by kind, the state that is led to, or None.
func (g *graph) rowsOf(states sorting) []int {
	var rows []int
	for _, set := range states.first {
		for kind := 0; kind < g.kinds; kind++ {
			to := g.groupAt(states.of, set, kind)
			rows = append(rows, to)
		}
	}
	return rows
}

// sameColumn tells whether two kinds lead from each state to the same. A row has width numbers.
func sameColumn(rows []int, width int, a int, b int) bool {
	for at := 0; at < len(rows); at += width {
		if rows[at+a] != rows[at+b] {
			return false
		}
	}
	return true
}

// classesOf answers the class of each kind, and of each class its first kind: places may tell bytes apart that no state does.
func classesOf(rows []int, width int) ([]int, []int) {
	var of []int
	var first []int
	for kind := 0; kind < width; kind++ {
		class := 0
		for class < len(first) && !sameColumn(rows, width, first[class], kind) {
			class++
		}
		if class == len(first) {
			first = append(first, kind)
		}
		of = append(of, class)
	}
	return of, first
}

// machineOf puts the machine together. The states have the numbers of their groups: the first set of each is come upon in the order of P9.
func (g *graph) machineOf(k *kinds, states sorting) api.Machine {
	var m api.Machine
	rows := g.rowsOf(states)
	classes, first := classesOf(rows, g.kinds)
	for _, kind := range k.of {
		m.Class = append(m.Class, classes[kind])
	}
	for state, set := range states.first {
		rule := verdict(&g.sets[set])
		m.Label = append(m.Label, rule)
		for _, kind := range first {
			m.Next = append(m.Next, rows[state*g.kinds+kind])
		}
	}
	return m
}

// Build answers the machine of a list of patterns (P9).
func Build(patterns []string) (api.Machine, api.Errno) {
	net, e := place.Of(patterns)
	if e != api.OK {
		return api.Machine{}, e
	}
	k := kindsOf(&net)
	g, e := explore(&net, k.least)
	if e != api.OK {
		return api.Machine{}, e
	}
	states := g.alike()
	if len(states.first) > api.MaxStates {
		return api.Machine{}, api.ErrStates
	}
	m := g.machineOf(&k, states)
	m.Rules = len(patterns)
	return m, api.OK
}
