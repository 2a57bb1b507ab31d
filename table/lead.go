package table

import "munch/api"

// lead answers where a class leads from a state by sound tables. It ends, for each Def is below its state.
func lead(t *api.Tables, state int, class int) int {
	for state != api.None {
		k := t.Base[state] + class
		if k < len(t.Check) && t.Check[k] == state {
			return t.Next[k]
		}
		state = t.Def[state]
	}
	return api.None
}

// Step answers where a byte leads from a state by sound tables; None, if there is no such state or no such byte.
func Step(t *api.Tables, state int, b int) int {
	if state < 0 || state >= len(t.Label) || b < 0 || b >= len(t.Class) {
		return api.None
	}
	return lead(t, state, t.Class[b])
}

// Label answers the rule of a state; None, if it has none, or there is no such state.
func Label(t *api.Tables, state int) int {
	if state < 0 || state >= len(t.Label) {
		return api.None
	}
	return t.Label[state]
}

// CopyList answers the same numbers in a list of their own.
func CopyList(numbers []int) []int {
	fresh := make([]int, len(numbers))
	copy(fresh, numbers)
	return fresh
}

// Copy answers the same tables in lists of their own.
func Copy(t *api.Tables) api.Tables {
	var fresh api.Tables
	fresh.Rules = t.Rules
	fresh.Class = CopyList(t.Class)
	fresh.Label = CopyList(t.Label)
	fresh.Base = CopyList(t.Base)
	fresh.Def = CopyList(t.Def)
	fresh.Check = CopyList(t.Check)
	fresh.Next = CopyList(t.Next)
	return fresh
}
