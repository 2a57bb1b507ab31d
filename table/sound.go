// Package table: which machines and tables are sound, and where tables lead.
package table

import "munch/api"

// Bytes is how many different bytes there are.
const Bytes = 256

// Classes answers how many classes there are; 0, if these are not the classes of a sound machine.
func Classes(class []int) int {
	if len(class) != Bytes {
		return 0
	}
	classes := 0
	for _, c := range class {
		if c < 0 || c > classes {
			return 0
		}
		if c == classes {
			classes++
		}
	}
	return classes
}

// within tells whether each number is from least to most.
func within(numbers []int, least int, most int) bool {
	for _, n := range numbers {
		if n < least || n > most {
			return false
		}
	}
	return true
}

// soundHead tells whether Rules, Class and Label are as in a sound machine.
func soundHead(rules int, class []int, label []int) bool {
	if rules < 1 || rules > api.MaxRules {
		return false
	}
	if len(label) < 1 || len(label) > api.MaxStates {
		return false
	}
	if Classes(class) == 0 {
		return false
	}
	return within(label, api.None, rules-1)
}

// SoundMachine tells whether a machine is sound.
func SoundMachine(m *api.Machine) bool {
	if !soundHead(m.Rules, m.Class, m.Label) {
		return false
	}
	states := len(m.Label)
	classes := Classes(m.Class)
	if len(m.Next) != states*classes {
		return false
	}
	return within(m.Next, api.None, states-1)
}

// soundLengths tells whether there is a number for each state and for each cell, and not too many cells.
func soundLengths(t *api.Tables) bool {
	states := len(t.Label)
	cells := len(t.Check)
	return len(t.Base) == states && len(t.Def) == states && len(t.Next) == cells && cells <= api.MaxCells
}

// soundDefs tells whether each Def is None or a state below its own, so that falling back ends.
func soundDefs(def []int) bool {
	for s, d := range def {
		if d < api.None || d >= s {
			return false
		}
	}
	return true
}

// soundCells tells whether each cell is empty or holds what a state leads to, and the last one is not empty. The lengths and the bases must be sound.
func soundCells(t *api.Tables, classes int) bool {
	states := len(t.Base)
	last := api.None
	for k, s := range t.Check {
		last = s
		next := t.Next[k]
		if s == api.None && next == api.None {
			continue
		}
		if s < 0 || s >= states || next < api.None || next >= states {
			return false
		}
		class := k - t.Base[s]
		if class < 0 || class >= classes {
			return false
		}
	}
	return len(t.Check) == 0 || last != api.None
}

// Sound tells whether tables are sound.
func Sound(t *api.Tables) bool {
	if !soundHead(t.Rules, t.Class, t.Label) {
		return false
	}
	if !soundLengths(t) {
		return false
	}
	if !within(t.Base, 0, len(t.Check)) {
		return false
	}
	if !soundDefs(t.Def) {
		return false
	}
	classes := Classes(t.Class)
	return soundCells(t, classes)
}
