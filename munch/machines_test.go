package munch

import (
	"math"
	"math/rand"
	"slices"

	"munch/api"
)

// machineOfRows makes a machine of two rules of its rows.
func machineOfRows(rows ...[]int) api.Machine {
	m := api.Machine{Rules: 2, Class: classesOf("abcdefghij"[:len(rows[0])-1])}
	for s, row := range rows {
		m.Label = append(m.Label, s%3-1)
		m.Next = append(m.Next, row...)
	}
	return m
}

// machineOfA: example 5.
func machineOfA() api.Machine {
	return api.Machine{Rules: 1, Class: classesOf("a"), Label: []int{none, 0}, Next: []int{none, 1, none, none}}
}

// machineOfABB: example 6.
func machineOfABB() api.Machine {
	return api.Machine{Rules: 1, Class: classesOf("ab"), Label: []int{none, none, none, 0}, Next: []int{none, 1, 0, none, 1, 2, none, 1, 3, none, 1, 0}}
}

// machineOfNothing: example 7.
func machineOfNothing() api.Machine {
	return api.Machine{Rules: 1, Class: make([]int, 256), Label: []int{0}, Next: []int{none}}
}

// wideClasses: each byte is of one of so many classes.
func wideClasses(classes int) []int {
	class := make([]int, 256)
	for b := range class {
		class[b] = b % classes
	}
	return class
}

// fullMachine: no two of its rows lead to the same by any class, so that each state takes a cell for each class.
func fullMachine(states int, classes int) api.Machine {
	m := api.Machine{Rules: 8, Class: wideClasses(classes)}
	for s := range states {
		m.Label = append(m.Label, s%9-1)
		for c := range classes {
			m.Next = append(m.Next, (s+c)%states)
		}
	}
	return m
}

// emptyMachine leads nowhere.
func emptyMachine(states int, classes int) api.Machine {
	return api.Machine{Rules: 1, Class: wideClasses(classes), Label: slices.Repeat([]int{none}, states), Next: slices.Repeat([]int{none}, states*classes)}
}

// sparseMachine leads from each state by the first and the last class alone.
func sparseMachine(states int, classes int) api.Machine {
	m := emptyMachine(states, classes)
	for s := range states {
		m.Next[s*classes], m.Next[s*classes+classes-1] = s, states-1-s
	}
	return m
}

func sampleMachines() []api.Machine {
	return []api.Machine{
		machineOfA(), machineOfABB(), machineOfNothing(), fullMachine(96, 256), fullMachine(96, 1), fullMachine(1, 256), fullMachine(3, 4), emptyMachine(96, 256), emptyMachine(1, 1), sparseMachine(96, 256), sparseMachine(5, 2),
		machineOfRows([]int{0, 1}, []int{0, 1}, []int{none, none}, []int{0, none}),
	}
}

// randomMachine is sound. Many of its rows are like others, or like None, but for some classes.
func randomMachine(r *rand.Rand, states int, classes int) api.Machine {
	m := api.Machine{Rules: 1 + r.Intn(8), Class: wideClasses(classes)}
	for s := range states {
		m.Label = append(m.Label, r.Intn(m.Rules+1)-1)
		like, often := r.Intn(s+1)-1, r.Intn(6)
		for c := range classes {
			to := none
			if like != none {
				to = m.Next[like*classes+c]
			}
			if r.Intn(6) < often {
				to = r.Intn(states+1) - 1
			}
			m.Next = append(m.Next, to)
		}
	}
	return m
}

// packByWords follows P10, line by line.
func packByWords(m api.Machine) api.Tables {
	t := api.Tables{Rules: m.Rules, Class: slices.Clone(m.Class), Label: slices.Clone(m.Label)}
	classes := slices.Max(m.Class) + 1
	differ := func(s int, d int) []int {
		var at []int
		for c := range classes {
			other := none
			if d != none {
				other = m.Next[d*classes+c]
			}
			if m.Next[s*classes+c] != other {
				at = append(at, c)
			}
		}
		return at
	}
	filled := map[int][2]int{}
	last := -1
	for s := range m.Label {
		best := map[int]int{} // by how many classes there are: the first one, None ahead of all
		fewest := classes
		for d := s - 1; d >= none; d-- {
			n := len(differ(s, d))
			best[n] = d
			fewest = min(fewest, n)
		}
		own := differ(s, best[fewest])
		base := 0
		for slices.ContainsFunc(own, func(c int) bool { _, full := filled[base+c]; return full }) {
			base++
		}
		for _, c := range own {
			filled[base+c] = [2]int{s, m.Next[s*classes+c]}
			last = max(last, base+c)
		}
		t.Def = append(t.Def, best[fewest])
		t.Base = append(t.Base, base)
	}
	for k := range last + 1 {
		cell, full := filled[k]
		if !full {
			cell = [2]int{none, none}
		}
		t.Check = append(t.Check, cell[0])
		t.Next = append(t.Next, cell[1])
	}
	return t
}

// brokenMachines turns the machine of example 6 to one that breaks one rule of soundness.
func brokenMachines() map[string]func(m *api.Machine) {
	return map[string]func(m *api.Machine){
		"Rules 0":                         func(m *api.Machine) { m.Rules, m.Label[3] = 0, none },
		"Rules -1":                        func(m *api.Machine) { m.Rules, m.Label[3] = -1, none },
		"Rules 9":                         func(m *api.Machine) { m.Rules = 9 },
		"Rules 257":                       func(m *api.Machine) { m.Rules = 257 },
		"least Rules":                     func(m *api.Machine) { m.Rules = math.MinInt },
		"greatest Rules":                  func(m *api.Machine) { m.Rules = math.MaxInt },
		"no Class":                        func(m *api.Machine) { m.Class = nil },
		"a Class of no numbers":           func(m *api.Machine) { m.Class, m.Next = []int{}, nil },
		"255 classes' numbers":            func(m *api.Machine) { m.Class = m.Class[:255] },
		"257 classes' numbers":            func(m *api.Machine) { m.Class = append(m.Class, 0) },
		"512 classes' numbers":            func(m *api.Machine) { m.Class = append(m.Class, m.Class...) },
		"the first Class 1":               func(m *api.Machine) { m.Class[0] = 1 },
		"the first Class -1":              func(m *api.Machine) { m.Class[0] = -1 },
		"a Class below 0":                 func(m *api.Machine) { m.Class[255] = -1 },
		"a Class two above":               func(m *api.Machine) { m.Class[255] = 4 },
		"a Class two above, at first":     func(m *api.Machine) { m.Class[1] = 2 },
		"no class 1 ahead of class 2":     func(m *api.Machine) { m.Class['a'], m.Class['b'] = 2, 1 },
		"a class that is left out":        func(m *api.Machine) { m.Class['a'] = 0 },
		"a Class of 256":                  func(m *api.Machine) { m.Class[99] = 256 },
		"the greatest Class":              func(m *api.Machine) { m.Class[255] = math.MaxInt },
		"the least Class":                 func(m *api.Machine) { m.Class[255] = math.MinInt },
		"no Label":                        func(m *api.Machine) { m.Label = nil },
		"no states":                       func(m *api.Machine) { m.Label, m.Next = nil, nil },
		"a Label of no rule":              func(m *api.Machine) { m.Label[0] = 1 },
		"the last Label of no rule":       func(m *api.Machine) { m.Label[3] = 1 },
		"a Label below None":              func(m *api.Machine) { m.Label[1] = -2 },
		"the greatest Label":              func(m *api.Machine) { m.Label[2] = math.MaxInt },
		"the least Label":                 func(m *api.Machine) { m.Label[2] = math.MinInt },
		"a Label as great as Rules":       func(m *api.Machine) { m.Rules, m.Label[0] = 8, 8 },
		"a Label above fewer Rules":       func(m *api.Machine) { m.Rules, m.Label[0] = 7, 7 },
		"a Label too few":                 func(m *api.Machine) { m.Label = m.Label[:3] },
		"a Label too many":                func(m *api.Machine) { m.Label = append(m.Label, 0) },
		"no Next":                         func(m *api.Machine) { m.Next = nil },
		"a Next too few":                  func(m *api.Machine) { m.Next = m.Next[:11] },
		"a Next too many":                 func(m *api.Machine) { m.Next = append(m.Next, none) },
		"a row too few":                   func(m *api.Machine) { m.Next = m.Next[:9] },
		"a row too many":                  func(m *api.Machine) { m.Next = append(m.Next, none, none, none) },
		"Next for one class fewer":        func(m *api.Machine) { m.Next = m.Next[:8] },
		"Next for one class more":         func(m *api.Machine) { m.Next = append(m.Next, none, none, none, none) },
		"Next for 256 classes":            func(m *api.Machine) { m.Next = make([]int, 4*256) },
		"a class more than Next has":      func(m *api.Machine) { m.Class[255] = 3 },
		"a class fewer than Next has":     func(m *api.Machine) { m.Class['b'] = 1 },
		"a Next that is no state":         func(m *api.Machine) { m.Next[3] = 4 },
		"the first Next no state":         func(m *api.Machine) { m.Next[0] = 4 },
		"the last Next no state":          func(m *api.Machine) { m.Next[11] = 4 },
		"a Next below None":               func(m *api.Machine) { m.Next[3] = -2 },
		"the last Next below None":        func(m *api.Machine) { m.Next[11] = -2 },
		"a Next of MaxStates":             func(m *api.Machine) { m.Next[5] = 96 },
		"the greatest Next":               func(m *api.Machine) { m.Next[5] = math.MaxInt },
		"the least Next":                  func(m *api.Machine) { m.Next[5] = math.MinInt },
		"a Next of 2 to the power of 32":  func(m *api.Machine) { m.Next[5] = 1 << 32 },
		"two states of six classes":       func(m *api.Machine) { m.Class[253], m.Class[254], m.Class[255], m.Label = 3, 4, 5, m.Label[:2] },
		"nothing at all":                  func(m *api.Machine) { *m = api.Machine{} },
		"97 states":                       func(m *api.Machine) { *m = emptyMachine(97, 1) },
		"97 states of 256 classes":        func(m *api.Machine) { *m = fullMachine(97, 256) },
		"65536 states":                    func(m *api.Machine) { *m = emptyMachine(65536, 1) },
		"many states, and a Next for one": func(m *api.Machine) { m.Label = make([]int, 65537); m.Next = m.Next[:3] },
		"257 classes": func(m *api.Machine) {
			*m = emptyMachine(1, 256)
			m.Class = append(m.Class, 256)
			m.Next = append(m.Next, none)
		},
		"all lists long": func(m *api.Machine) { l := make([]int, 3000000); m.Class, m.Label, m.Next = l, l, l },
		"a long Class":   func(m *api.Machine) { m.Class = make([]int, 3000000) },
		"a long Label":   func(m *api.Machine) { m.Label = make([]int, 3000000) },
		"a long Next":    func(m *api.Machine) { m.Next = make([]int, 3000000) },
	}
}

// soundMachines turns the machine of example 6 to others that are sound, each near to one that is not.
func soundMachines() map[string]func(m *api.Machine) {
	return map[string]func(m *api.Machine){
		"as it is":                    func(m *api.Machine) {},
		"Rules 8":                     func(m *api.Machine) { m.Rules = 8 },
		"a Label of the last rule":    func(m *api.Machine) { m.Rules, m.Label[0] = 8, 7 },
		"all Labels None":             func(m *api.Machine) { m.Label[3] = none },
		"all Labels 0":                func(m *api.Machine) { m.Label = make([]int, 4) },
		"a Class below the greatest":  func(m *api.Machine) { m.Class[255] = 1 },
		"the greatest Class at first": func(m *api.Machine) { m.Class[1], m.Class[2] = 1, 2 },
		"a class more, and its Next":  func(m *api.Machine) { m.Class[255], m.Next = 3, append(m.Next, 0, 1, 2, 3) },
		"a class fewer, and its Next": func(m *api.Machine) { m.Class['b'], m.Next = 1, m.Next[:8] },
		"a state more, and its row":   func(m *api.Machine) { m.Label, m.Next = append(m.Label, none), append(m.Next, 4, 4, 4) },
		"a state fewer, and its row":  func(m *api.Machine) { m.Label, m.Next = m.Label[:3], []int{2, 1, 0, none, 1, 2, none, 1, 0} },
		"each Next the last state":    func(m *api.Machine) { m.Next = slices.Repeat([]int{3}, 12) },
		"each Next None":              func(m *api.Machine) { m.Next = slices.Repeat([]int{none}, 12) },
		"two states of six classes": func(m *api.Machine) {
			m.Class[253], m.Class[254], m.Class[255], m.Label, m.Next = 3, 4, 5, m.Label[:2], make([]int, 12)
		},
		"twelve states of one class":    func(m *api.Machine) { m.Class, m.Label = make([]int, 256), slices.Repeat([]int{none}, 12) },
		"one state of 256 classes":      func(m *api.Machine) { *m = emptyMachine(1, 256) },
		"one state of one class":        func(m *api.Machine) { *m = emptyMachine(1, 1) },
		"96 states of one class":        func(m *api.Machine) { *m = emptyMachine(96, 1) },
		"96 states of 255 classes":      func(m *api.Machine) { *m = fullMachine(96, 255) },
		"96 states of 256 classes":      func(m *api.Machine) { *m = fullMachine(96, 256) },
		"spare room behind each list":   func(m *api.Machine) { *m, _ = machineInOneRoom(*m) },
		"states to which nothing leads": func(m *api.Machine) { m.Next = make([]int, 12) },
	}
}

func machineInOneRoom(m api.Machine) (api.Machine, []int) {
	room := layInOneRoom(listsOfMachine(&m))
	return m, room
}

// wildMachineNumber is near to one that may stand in a machine, or far from all.
func wildMachineNumber(r *rand.Rand, m *api.Machine) int {
	near := []int{none, 0, m.Rules, len(m.Label), 256, slices.Max(append(slices.Clone(m.Class), 0)), math.MinInt, math.MaxInt, 1 << 32, -1 << 32, 8, 96}
	return near[r.Intn(len(near))] + r.Intn(5) - 2
}

// turnedMachine changes a number or a length somewhere in a machine.
func turnedMachine(r *rand.Rand, m *api.Machine) {
	l := listsOfMachine(m)[r.Intn(3)]
	switch what := r.Intn(12); {
	case what == 0:
		m.Rules = wildMachineNumber(r, m)
	case what == 1 && len(*l) > 0:
		*l = (*l)[:r.Intn(len(*l))]
	case what == 2:
		*l = append(*l, wildMachineNumber(r, m))
	case what < 6:
		m.Rules = 1 + r.Intn(8)
	case len(*l) > 0:
		(*l)[r.Intn(len(*l))] = wildMachineNumber(r, m)
	}
}
