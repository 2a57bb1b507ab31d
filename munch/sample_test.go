package munch

import (
	"math/rand"
	"slices"

	"munch/api"
)

const none = api.None

// classesOf: the bytes of letters are of the classes 1, 2, .., all others of 0.
func classesOf(letters string) []int {
	class := make([]int, 256)
	for i := range len(letters) {
		class[letters[i]] = i + 1
	}
	return class
}

// tablesOfA: example 5.
func tablesOfA() api.Tables {
	return api.Tables{Rules: 1, Class: classesOf("a"), Label: []int{none, 0}, Base: []int{0, 0}, Def: []int{none, none}, Check: []int{none, 0}, Next: []int{none, 1}}
}

// tablesOfABB: example 6.
func tablesOfABB() api.Tables {
	return api.Tables{Rules: 1, Class: classesOf("ab"), Label: []int{none, none, none, 0}, Base: []int{0, 1, 2, 0}, Def: []int{none, 0, 0, 0}, Check: []int{none, 0, 0, 1, 2}, Next: []int{none, 1, 0, 2, 3}}
}

// tablesOfNothing: example 7.
func tablesOfNothing() api.Tables {
	return api.Tables{Rules: 1, Class: make([]int, 256), Label: []int{0}, Base: []int{0}, Def: []int{none}}
}

// unpacked makes tables of rows, each of which has all its cells to itself.
func unpacked(rules int, class []int, label []int, next []int) api.Tables {
	t := api.Tables{Rules: rules, Class: class, Label: label}
	classes := len(next) / len(label)
	for s := range label {
		t.Base = append(t.Base, s*classes)
		t.Def = append(t.Def, none)
	}
	for k, to := range next {
		t.Check = append(t.Check, k/classes)
		t.Next = append(t.Next, to)
	}
	return t
}

// fullTables: as many rules, classes, states and cells as may be.
func fullTables() api.Tables {
	class := make([]int, 256)
	for b := range class {
		class[b] = b
	}
	label := make([]int, api.MaxStates)
	next := make([]int, api.MaxCells)
	for s := range label {
		label[s] = s%9 - 1
	}
	for k := range next {
		next[k] = k*k%(api.MaxStates+1) - 1
	}
	return unpacked(api.MaxRules, class, label, next)
}

// spreadTables: two states, so many cells, of which but two are not empty, and the Base of state 1 as great as may be with that.
func spreadTables(cells int) api.Tables {
	t := tablesOfA()
	for len(t.Check) < cells {
		t.Check = append(t.Check, none)
		t.Next = append(t.Next, none)
	}
	t.Base[1] = cells - 1
	t.Check[cells-1] = 1
	t.Next[cells-1] = 0
	return t
}

// chainTables: so many states without a cell, each of which falls back on the one below it.
func chainTables(states int) api.Tables {
	t := api.Tables{Rules: 1, Class: make([]int, 256)}
	for s := range states {
		t.Label = append(t.Label, 0)
		t.Base = append(t.Base, 0)
		t.Def = append(t.Def, s-1)
	}
	return t
}

func samples() []api.Tables {
	return []api.Tables{tablesOfA(), tablesOfABB(), tablesOfNothing(), fullTables(), spreadTables(257), spreadTables(api.MaxCells), chainTables(api.MaxStates)}
}

func cloned(t api.Tables) api.Tables {
	return api.Tables{Rules: t.Rules, Class: slices.Clone(t.Class), Label: slices.Clone(t.Label), Base: slices.Clone(t.Base), Def: slices.Clone(t.Def), Check: slices.Clone(t.Check), Next: slices.Clone(t.Next)}
}

func sameTables(a api.Tables, b api.Tables) bool {
	return a.Rules == b.Rules && slices.Equal(a.Class, b.Class) && slices.Equal(a.Label, b.Label) && slices.Equal(a.Base, b.Base) && slices.Equal(a.Def, b.Def) && slices.Equal(a.Check, b.Check) && slices.Equal(a.Next, b.Next)
}

// listsOf gives the six lists of tables, to be written into.
func listsOf(t *api.Tables) []*[]int {
	return []*[]int{&t.Class, &t.Label, &t.Base, &t.Def, &t.Check, &t.Next}
}

// soundByWords says of tables, rule by rule of the document, whether they are sound.
func soundByWords(t api.Tables) bool {
	states, cells := len(t.Label), len(t.Check)
	isState := func(n int) bool { return 0 <= n && n < states }
	sound := 1 <= t.Rules && t.Rules <= 8 && len(t.Class) == 256 && 1 <= states && states <= 96
	sound = sound && len(t.Base) == states && len(t.Def) == states && len(t.Next) == cells && cells <= 24576
	if !sound {
		return false
	}
	sound = sound && t.Class[0] == 0
	greatest := t.Class[0]
	for _, c := range t.Class[1:] {
		sound = sound && c >= 0 && c-1 <= greatest
		greatest = max(greatest, c)
	}
	for s := range states {
		sound = sound && none <= t.Label[s] && t.Label[s] < t.Rules
		sound = sound && 0 <= t.Base[s] && t.Base[s] <= cells
		sound = sound && (t.Def[s] == none || isState(t.Def[s]) && t.Def[s] < s)
	}
	if !sound {
		return false
	}
	classes := greatest + 1
	for k := range cells {
		empty := t.Check[k] == none && t.Next[k] == none
		full := isState(t.Check[k]) && t.Base[t.Check[k]] <= k && k < t.Base[t.Check[k]]+classes && (isState(t.Next[k]) || t.Next[k] == none)
		sound = sound && (empty || full) && (full || k < cells-1)
	}
	return sound
}

// leadByWords says where a class leads, by the document's own words.
func leadByWords(t api.Tables, s int, c int) int {
	if k := t.Base[s] + c; k < len(t.Check) && t.Check[k] == s {
		return t.Next[k]
	}
	if t.Def[s] != none {
		return leadByWords(t, t.Def[s], c)
	}
	return none
}

// randomTables are sound: cells that overlap, with holes, and states that fall back on others.
func randomTables(r *rand.Rand) api.Tables {
	t := api.Tables{Rules: 1 + r.Intn(8), Class: make([]int, 256)}
	classes, found := 1+r.Intn(5), 1
	for b := 90; b < 256 && found < classes; b++ {
		t.Class[b] = r.Intn(found + 1)
		found = max(found, t.Class[b]+1)
	}
	states := 1 + r.Intn(8)
	cells := make([]int, 300)
	t.Check, t.Next = slices.Repeat([]int{none}, 300), slices.Repeat([]int{none}, 300)
	last := none
	for s := range states {
		base := r.Intn(12)
		if r.Intn(20) == 0 {
			base += 250
		}
		t.Label = append(t.Label, r.Intn(t.Rules+1)-1)
		t.Base = append(t.Base, base)
		t.Def = append(t.Def, r.Intn(s+1)-1)
		for k := base; k < base+found; k++ {
			if r.Intn(3) > 0 && cells[k] == 0 {
				cells[k], t.Check[k], t.Next[k] = 1, s, r.Intn(states+1)-1
				last = max(last, k)
			}
		}
	}
	t.Check, t.Next = t.Check[:last+1], t.Next[:last+1]
	for s := range states {
		t.Base[s] = min(t.Base[s], last+1)
	}
	return t
}
