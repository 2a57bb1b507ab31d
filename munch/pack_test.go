package munch

import (
	"math/rand"
	"slices"
	"testing"

	"munch/api"
)

func packed(t *testing.T, m api.Machine) api.Tables {
	t.Helper()
	x, e := Pack(m)
	if e != api.OK {
		t.Fatalf("Pack(%.300v): the error %d", m, e)
	}
	return x
}

// notPacked wants ErrMachine, and nothing beside it.
func notPacked(t *testing.T, what string, m api.Machine) {
	t.Helper()
	if x, e := Pack(m); e != api.ErrMachine || !sameTables(x, api.Tables{}) {
		t.Errorf("Pack, %s: %.300v, %d, want nothing and ErrMachine", what, x, e)
	}
}

// packedAs wants tables, with all that is handed through.
func packedAs(t *testing.T, what string, m api.Machine, base []int, def []int, check []int, next []int) {
	t.Helper()
	want := api.Tables{Rules: m.Rules, Class: m.Class, Label: m.Label, Base: base, Def: def, Check: check, Next: next}
	if x, e := Pack(m); e != api.OK || !sameTables(x, want) {
		t.Errorf("Pack, %s: the error %d, Base %v, Def %v, Check %v, Next %v, want %v, %v, %v, %v", what, e, x.Base, x.Def, x.Check, x.Next, base, def, check, next)
	}
	rowsStay(t, m)
}

// rowsStay wants tables that are sound and lead from each state with each class where the machine leads.
func rowsStay(t *testing.T, m api.Machine) {
	t.Helper()
	x := packed(t, m)
	if !soundByWords(x) {
		t.Fatalf("Pack(%.300v) = %.300v, which are not sound", m, x)
	}
	classes := slices.Max(m.Class) + 1
	for k, want := range m.Next {
		if got := leadByWords(x, k/classes, k%classes); got != want {
			t.Fatalf("Pack(%.300v): from the state %d the class %d leads to %d, want %d", m, k/classes, k%classes, got, want)
		}
	}
}

// packedByWords wants what the words of P10 say.
func packedByWords(t *testing.T, m api.Machine) api.Tables {
	t.Helper()
	x, want := packed(t, m), packByWords(m)
	if !sameTables(x, want) {
		t.Fatalf("Pack(%.300v) = %.300v, want %.300v", m, x, want)
	}
	rowsStay(t, m)
	return x
}

func TestP10Examples(t *testing.T) {
	packedAs(t, "example 5", machineOfA(), []int{0, 0}, []int{none, none}, []int{none, 0}, []int{none, 1})
	packedAs(t, "example 6", machineOfABB(), []int{0, 1, 2, 0}, []int{none, 0, 0, 0}, []int{none, 0, 0, 1, 2}, []int{none, 1, 0, 2, 3})
	packedAs(t, "example 7", machineOfNothing(), []int{0}, []int{none}, nil, nil)
	for i, want := range []api.Tables{tablesOfA(), tablesOfABB(), tablesOfNothing()} {
		m := built(t, list("a", "(a|b)*abb", "")[i])
		if x := packed(t, m); !sameTables(x, want) {
			t.Errorf("Pack of what Build answers, example %d: %v, want %v", i+5, x, want)
		}
	}
}

func TestP10EqualRows(t *testing.T) {
	packedAs(t, "three equal rows: the first, not the nearest one below", machineOfRows([]int{0, 1}, []int{0, 1}, []int{0, 1}),
		[]int{0, 0, 0}, []int{none, 0, 0}, []int{0, 0}, []int{0, 1})
	packedAs(t, "a row equal to one that falls back itself", machineOfRows([]int{0, 1, 2}, []int{0, 1, 1}, []int{0, 1, 1}),
		[]int{0, 1, 0}, []int{none, 0, 1}, []int{0, 0, 0, 1}, []int{0, 1, 2, 1})
	packedAs(t, "no own class: Base 0, though the cells at hand are elsewhere", machineOfRows([]int{0, 1}, []int{1, 0}, []int{1, 0}, []int{0, none}),
		[]int{0, 2, 0, 4}, []int{none, none, 1, none}, []int{0, 0, 1, 1, 3}, []int{0, 1, 1, 0, 0})
	packedAs(t, "no own class, and the cell 0 is empty", machineOfRows([]int{none, 0}, []int{none, 0}, []int{2, 0}),
		[]int{0, 0, 0}, []int{none, 0, 0}, []int{2, 0}, []int{2, 0})
}

func TestP10RowsOfNone(t *testing.T) {
	packedAs(t, "one state, one class", machineOfRows([]int{none}), []int{0}, []int{none}, nil, nil)
	packedAs(t, "rows of None alone fall back on None, not on one another", machineOfRows([]int{none, none}, []int{none, none}, []int{none, none}),
		[]int{0, 0, 0}, []int{none, none, none}, nil, nil)
	packedAs(t, "rows of None alone among others", machineOfRows([]int{none, none}, []int{1, none}, []int{none, none}, []int{3, 3}, []int{none, none}),
		[]int{0, 0, 0, 1, 0}, []int{none, none, none, none, none}, []int{1, 3, 3}, []int{1, 3, 3})
	packedAs(t, "a row that is another's but for a None", machineOfRows([]int{0, 1, 0}, []int{0, none, 0}),
		[]int{0, 2}, []int{none, 0}, []int{0, 0, 0, 1}, []int{0, 1, 0, none})
	packedAs(t, "back to a None that the state below has given up", machineOfRows([]int{0, 1, none}, []int{0, 1, 2}, []int{0, none, 2}),
		[]int{0, 0, 2}, []int{none, 0, 1}, []int{0, 0, 1, 2}, []int{0, 1, 2, none})
}

func TestP10Def(t *testing.T) {
	nothing := []int{none, none, none}
	packedAs(t, "None and a state are equally good", machineOfRows([]int{none, 0, 1}, []int{none, 1, 0}),
		[]int{0, 2}, []int{none, none}, []int{none, 0, 0, 1, 1}, []int{none, 0, 1, 1, 0})
	packedAs(t, "None and a state are equally good, by other classes", machineOfRows([]int{0, 1, none}, []int{none, 1, 1}),
		[]int{0, 1}, []int{none, none}, []int{0, 0, 1, 1}, []int{0, 1, 1, 1})
	packedAs(t, "a state is better than None by one class", machineOfRows([]int{0, 1, none}, []int{0, 1, 1}),
		[]int{0, 0}, []int{none, 0}, []int{0, 0, 1}, []int{0, 1, 1})
	packedAs(t, "None is better than a state by one class", machineOfRows([]int{0, 1, 1}, []int{0, none, none}),
		[]int{0, 3}, []int{none, none}, []int{0, 0, 0, 1}, []int{0, 1, 1, 0})
	packedAs(t, "two states are equally good", machineOfRows([]int{0, 1, 2}, []int{3, 4, 5}, []int{0, 4, 3}, nothing, nothing, nothing),
		[]int{0, 3, 5, 0, 0, 0}, []int{none, none, 0, none, none, none}, []int{0, 0, 0, 1, 1, 1, 2, 2}, []int{0, 1, 2, 3, 4, 5, 4, 3})
	packedAs(t, "the higher state is better", machineOfRows([]int{0, 1, 2}, []int{3, 4, 5}, []int{3, 4, 0}, nothing, nothing, nothing),
		[]int{0, 3, 4, 0, 0, 0}, []int{none, none, 1, none, none, none}, []int{0, 0, 0, 1, 1, 1, 2}, []int{0, 1, 2, 3, 4, 5, 0})
	packedAs(t, "a state above is not looked at", machineOfRows([]int{0, 1, 2}, []int{2, 0, 1}, []int{2, 0, 1}),
		[]int{0, 3, 0}, []int{none, none, 1}, []int{0, 0, 0, 1, 1, 1}, []int{0, 1, 2, 2, 0, 1})
	packedAs(t, "rows count, not cells: a state without a cell is as good as another", machineOfRows([]int{0, 0, 0}, []int{0, 0, 0}, []int{0, 0, 1}, []int{0, 0, 1}),
		[]int{0, 0, 1, 0}, []int{none, 0, 0, 2}, []int{0, 0, 0, 2}, []int{0, 0, 0, 1})
}

func TestP10Base(t *testing.T) {
	packedAs(t, "the first empty cell doesn't fit; it is filled later", machineOfRows([]int{0, none, 0}, []int{1, 1, none}, []int{none, 2, none}),
		[]int{0, 3, 0}, []int{none, none, none}, []int{0, 2, 0, 1, 1}, []int{0, 2, 0, 1, 1})
	packedAs(t, "some cells among others, some behind the end", machineOfRows([]int{0, none, 0, none}, []int{1, none, 1, none}),
		[]int{0, 1}, []int{none, none}, []int{0, 1, 0, 1}, []int{0, 1, 0, 1})
	packedAs(t, "the cell Base is another's, and not needed", machineOfRows([]int{0, none, none}, []int{none, 1, 1}),
		[]int{0, 0}, []int{none, none}, []int{0, 1, 1}, []int{0, 1, 1})
	packedAs(t, "behind all cells", machineOfRows([]int{0, 0}, []int{1, 1}),
		[]int{0, 2}, []int{none, none}, []int{0, 0, 1, 1}, []int{0, 0, 1, 1})
	packedAs(t, "behind all cells, the Base among them", machineOfRows([]int{0, 0, 0}, []int{0, 0, 1}),
		[]int{0, 1}, []int{none, 0}, []int{0, 0, 0, 1}, []int{0, 0, 0, 1})
	packedAs(t, "a cell of None is not empty", machineOfRows([]int{0, 0, 0}, []int{none, 0, 0}, []int{1, 0, 0}),
		[]int{0, 3, 4}, []int{none, 0, 0}, []int{0, 0, 0, 1, 2}, []int{0, 0, 0, none, 1})
	packedAs(t, "Base is never below 0", machineOfRows([]int{none, none, 0}, []int{none, none, 1}, []int{none, 2, none}, []int{3, none, none}),
		[]int{0, 1, 0, 0}, []int{none, none, none, none}, []int{3, 2, 0, 1}, []int{3, 2, 0, 1})
	packedAs(t, "two holes, of which the second fits", machineOfRows([]int{0, none, 0, none, none, 0}, []int{1, 1, none, none, none, none}),
		[]int{0, 3}, []int{none, none}, []int{0, none, 0, 1, 1, 0}, []int{0, none, 0, 1, 1, 0})
}

func TestP10LastCells(t *testing.T) {
	packedAs(t, "no cell", machineOfRows([]int{none, none, none}, []int{none, none, none}), []int{0, 0}, []int{none, none}, nil, nil)
	packedAs(t, "the first class alone", machineOfRows([]int{0, none, none}), []int{0}, []int{none}, []int{0}, []int{0})
	packedAs(t, "the last class alone", machineOfRows([]int{none, none, 0}), []int{0}, []int{none}, []int{none, none, 0}, []int{none, none, 0})
	packedAs(t, "the class in the midst", machineOfRows([]int{none, 0, none}), []int{0}, []int{none}, []int{none, 0}, []int{none, 0})
	packedAs(t, "the last cell leads to None", machineOfRows([]int{0, 0, 0}, []int{none, 0, 0}), []int{0, 3}, []int{none, 0}, []int{0, 0, 0, 1}, []int{0, 0, 0, none})
	packedAs(t, "the last cell is not the last state's", machineOfRows([]int{none, 0, 0}, []int{1, none, none}), []int{0, 0}, []int{none, none}, []int{1, 0, 0}, []int{1, 0, 0})
}

// TestP10NoPatterns: machines that Build never answers.
func TestP10NoPatterns(t *testing.T) {
	for what, m := range map[string]api.Machine{
		"states to which nothing leads": machineOfRows([]int{0, none}, []int{2, 1}, []int{1, 2}),
		"the state 0 is dead":           machineOfRows([]int{none, none}, []int{1, 1}),
		"states that are alike":         machineOfRows([]int{1, 2}, []int{3, 3}, []int{3, 3}, []int{3, 3}),
		"classes that are alike":        machineOfRows([]int{0, 1, 1, 0}, []int{1, 0, 0, 1}),
		"256 classes that are alike":    fullMachine(1, 256),
		"no state has a rule":           emptyMachine(3, 3),
		"states out of order":           machineOfRows([]int{2, 1}, []int{0, 0}, []int{1, 0}),
	} {
		x := packedByWords(t, m)
		if !slices.Equal(x.Class, m.Class) || !slices.Equal(x.Label, m.Label) || x.Rules != m.Rules {
			t.Errorf("%s: Rules, Class or Label are others: %v", what, x)
		}
	}
}

func TestP10Greatest(t *testing.T) {
	x := packed(t, fullMachine(96, 256))
	if len(x.Check) != api.MaxCells || len(x.Next) != api.MaxCells || len(x.Label) != api.MaxStates || x.Rules != api.MaxRules {
		t.Fatalf("%d cells, %d states, %d rules", len(x.Check), len(x.Label), x.Rules)
	}
	for s := range 96 {
		if x.Base[s] != 256*s || x.Def[s] != none {
			t.Errorf("the state %d has Base %d and Def %d", s, x.Base[s], x.Def[s])
		}
	}
	for k := range x.Check {
		if x.Check[k] != k/256 || x.Next[k] != (k/256+k%256)%96 {
			t.Fatalf("the cell %d is %d, %d", k, x.Check[k], x.Next[k])
		}
	}
	if file := fileOf(t, x); len(file) != 10+256+96*4+2*24576+4 || !sameTables(loaded(t, file).Tables(), x) {
		t.Errorf("the greatest file has %d bytes", len(file))
	}
	if x := packed(t, emptyMachine(96, 256)); len(x.Check) != 0 || len(x.Def) != 96 || slices.Max(x.Base) != 0 {
		t.Errorf("96 rows of None: %d cells", len(x.Check))
	}
	// The first and the last of 256 cells each: they lie within one another.
	x = packed(t, sparseMachine(96, 256))
	if len(x.Check) != 96+255 || x.Base[95] != 95 || slices.Max(x.Def) != none || x.Check[96] != none || x.Check[254] != none || x.Check[255] != 0 {
		t.Errorf("96 rows of two classes: %d cells, Base %v", len(x.Check), x.Base)
	}
	for _, m := range sampleMachines() {
		packedByWords(t, m)
	}
	notPacked(t, "97 states", fullMachine(97, 256))
}

func TestP10EachRuleOfSoundness(t *testing.T) {
	for what, turn := range brokenMachines() {
		m := machineOfABB()
		turn(&m)
		if soundMachine(m) {
			t.Errorf("%s: this machine is sound", what)
		}
		notPacked(t, what, m)
	}
	for what, turn := range soundMachines() {
		m := machineOfABB()
		turn(&m)
		if !soundMachine(m) {
			t.Errorf("%s: this machine is not sound", what)
			continue
		}
		packedByWords(t, m)
	}
}

func TestP10RandomMachines(t *testing.T) {
	r := rand.New(rand.NewSource(10))
	var falls, holes, without, nones int
	for range 20000 {
		x := packedByWords(t, randomMachine(r, 1+r.Intn(10), 1+r.Intn(7)))
		for s := range x.Label {
			if x.Def[s] != none {
				falls++
			}
			if !slices.Contains(x.Check, s) {
				without++
			}
		}
		for k := range x.Check {
			if x.Check[k] == none {
				holes++
			} else if x.Next[k] == none {
				nones++
			}
		}
	}
	if falls < 10000 || holes < 2000 || without < 10000 || nones < 2000 {
		t.Errorf("%d states fall back, %d cells are empty, %d states have no cell, %d cells lead to None", falls, holes, without, nones)
	}
	for range 40 {
		packedByWords(t, randomMachine(r, 1+r.Intn(96), 1+r.Intn(40)))
	}
	for range 3 {
		packedByWords(t, randomMachine(r, 96, 256))
	}
}

// TestP10TurnedMachines: whether a machine is sound hangs on each of its numbers.
func TestP10TurnedMachines(t *testing.T) {
	r := rand.New(rand.NewSource(11))
	var sound [2]int
	for range 20000 {
		m := randomMachine(r, 1+r.Intn(6), 1+r.Intn(4))
		for range 1 + r.Intn(3) {
			turnedMachine(r, &m)
		}
		if soundMachine(m) {
			sound[1]++
			packedByWords(t, m)
		} else {
			sound[0]++
			notPacked(t, "a turned machine", m)
		}
	}
	if sound[0] < 2000 || sound[1] < 2000 {
		t.Errorf("of the turned machines %d are not sound, %d are", sound[0], sound[1])
	}
}

// TestP10BuiltMachines packs what Build answers.
func TestP10BuiltMachines(t *testing.T) {
	r := rand.New(rand.NewSource(12))
	for range 500 {
		patterns := randomList(r)
		if m, e := Build(patterns); e == api.OK {
			packedByWords(t, m)
		}
		if m, e := Build(crowdedList(r)); e == api.OK {
			packedByWords(t, m)
		}
	}
}
