package munch

import (
	"math/rand"
	"slices"
	"testing"

	"munch/api"
)

func generated(t *testing.T, patterns ...string) string {
	t.Helper()
	file, e := Generate(patterns)
	if e != api.OK || file == "" {
		t.Fatalf("Generate(%q): %d bytes, the error %d", patterns, len(file), e)
	}
	return file
}

// notGenerated wants an error, and nothing beside it.
func notGenerated(t *testing.T, want api.Errno, patterns ...string) {
	t.Helper()
	if file, e := Generate(patterns); e != want || file != "" {
		t.Errorf("Generate(%.200q): %d bytes, the error %d, want none and %d", patterns, len(file), e, want)
	}
}

// generatedAs wants a file, told by its head behind the magic, the bytes of its classes from 1 on, and all that is behind the classes but for the sum.
func generatedAs(t *testing.T, patterns []string, head []int, classes []string, rest ...[]int) {
	t.Helper()
	class := make([]int, 256)
	for i, bytes := range classes {
		for k := range len(bytes) {
			class[bytes[k]] = i + 1
		}
	}
	want := sealed("MUN1" + bytesOf(head...) + bytesOf(class...) + bytesOf(slices.Concat(rest...)...))
	if file, e := Generate(patterns); e != api.OK || file != want {
		t.Errorf("Generate(%q) = %x, %d, want %x", patterns, file, e, want)
	}
}

func TestP11Files(t *testing.T) {
	generatedAs(t, list("a"), []int{1, 1, 2, 0, 2, 1}, list("a"), []int{0, 1}, []int{0, 0}, []int{0, 0}, []int{0, 0, 1, 2})
	if file := generated(t, "a"); len(file) != 280 {
		t.Errorf("the file of example 5 has %d bytes", len(file))
	}
	generatedAs(t, list("(a|b)*abb"), []int{1, 2, 4, 0, 5, 1}, list("a", "b"), []int{0, 0, 0, 1}, []int{0, 1, 2, 0}, []int{0, 1, 1, 1}, []int{0, 0, 1, 2, 1, 1, 2, 3, 3, 4})
	generatedAs(t, list(""), []int{1, 0, 1, 0, 0, 1}, nil, []int{1}, []int{0}, []int{0})
	generatedAs(t, slices.Repeat(list(""), 8), []int{8, 0, 1, 0, 0, 1}, nil, []int{1}, []int{0}, []int{0})
	generatedAs(t, list("if", "[a-z]+", " "), []int{3, 4, 5, 0, 9, 1}, list(" ", "abcdeghjklmnopqrstuvwxyz", "f", "i"),
		[]int{0, 3, 2, 2, 1}, []int{0, 0, 4, 3, 0}, []int{0, 0, 1, 3, 3}, []int{0, 0, 1, 2, 1, 3, 1, 3, 1, 4, 3, 0, 4, 5, 0, 0, 3, 3})
	generatedAs(t, list("a", "abc"), []int{2, 3, 4, 0, 4, 1}, list("a", "b", "c"), []int{0, 1, 0, 2}, []int{0, 0, 0, 0}, []int{0, 0, 0, 0}, []int{0, 0, 1, 2, 2, 3, 3, 4})
	generatedAs(t, list("a*"), []int{1, 1, 1, 0, 2, 1}, list("a"), []int{1}, []int{0}, []int{0}, []int{0, 0, 1, 1})
	generatedAs(t, list(`[\x00-\xff]*`), []int{1, 0, 1, 0, 1, 1}, nil, []int{1}, []int{0}, []int{0}, []int{1, 1})
	generatedAs(t, list("x", ".", `\n`), []int{3, 2, 4, 0, 3, 1}, list("\n", "x"), []int{0, 2, 3, 1}, []int{0, 0, 0, 0}, []int{0, 0, 0, 0}, []int{1, 2, 1, 3, 1, 4})
	// As many states as may be, in one row.
	label, base, cells := make([]int, 96), make([]int, 96), []int{0, 0}
	label[95] = 1
	for s := range 95 {
		base[s] = s
		cells = append(cells, s+1, s+2)
	}
	generatedAs(t, list("a{9}{9}a{7}{2}"), []int{1, 1, 96, 0, 96, 1}, list("a"), label, base, make([]int, 96), cells)
}

// TestP11WideBase: so many cells that a Base takes two bytes.
func TestP11WideBase(t *testing.T) {
	patterns := list("([^a][^b][^c][^d][^e][^f][^g]){9}")
	file := generated(t, patterns...)
	m, _, _, _ := machineByWords(patterns)
	x := packByWords(m)
	if cells := 63 * 7; len(x.Check) < cells || slices.Max(x.Base) < 256 || file[9] != 2 || file != fileByWords(x) {
		t.Errorf("%d cells, the greatest Base %d, the width %d", len(x.Check), slices.Max(x.Base), file[9])
	}
}

func TestP11Errors(t *testing.T) {
	tooManySets, tooManyStates := "(a|b)*a(a|b){7}", "(a|b)*a(a|b){6}"
	notGenerated(t, api.ErrRules)
	notGenerated(t, api.ErrRules, make([]string, 9)...)
	notGenerated(t, api.ErrRules, slices.Repeat(list("("), 9)...)
	notGenerated(t, api.ErrRules, make([]string, 100000)...)
	for _, c := range []struct {
		p    string
		want api.Errno
	}{
		{times("a", 41), api.ErrLong}, {times("(", 1000000), api.ErrLong}, {"(", api.ErrForm}, {"a)", api.ErrForm}, {nested(7, "[b-a]"), api.ErrDeep}, {`[b-a][^\x00-\xff]`, api.ErrValue}, {"a{3,2}", api.ErrValue}, {`[^\x00-\xff]a{9}{9}{9}`, api.ErrEmpty}, {"a{9}{9}{2}", api.ErrPlaces}, {"(a|b)*a(a|b){9}{9}", api.ErrPlaces},
	} {
		notGenerated(t, c.want, c.p)
		notGenerated(t, c.want, tooManySets, c.p)
		notGenerated(t, c.want, c.p, tooManyStates)
	}
	notGenerated(t, api.ErrForm, "a", ")", times("a", 41))
	notGenerated(t, api.ErrSets, tooManySets)
	notGenerated(t, api.ErrSets, tooManyStates, "c{9}{8}")
	notGenerated(t, api.ErrStates, tooManyStates)
	notGenerated(t, api.ErrStates, "x", tooManyStates, "(a|b)*")
	notGenerated(t, api.ErrStates, "a{8}{6}{2}")
	generated(t, "(a|b)*a(a|b){5}")
	generated(t, "[ab]*|[ab]*a[ab]{6}")
}

// generatedByWords wants the file that the words of the document make of patterns, or the error of Build; and that the three calls make the same of them.
func generatedByWords(t *testing.T, patterns []string) {
	t.Helper()
	m, want, _, _ := machineByWords(patterns)
	if want != api.OK {
		notGenerated(t, want, patterns...)
		return
	}
	file := generated(t, patterns...)
	if file != fileByWords(packByWords(m)) {
		t.Fatalf("Generate(%q) = %x, want %x", patterns, file, fileByWords(packByWords(m)))
	}
	if byCalls, e := Encode(packed(t, built(t, patterns...))); e != api.OK || byCalls != file {
		t.Fatalf("Generate(%q) = %x, and by Build, Pack and Encode %x, %d", patterns, file, byCalls, e)
	}
}

func TestP11RandomLists(t *testing.T) {
	r := rand.New(rand.NewSource(11))
	for range 1500 {
		generatedByWords(t, randomList(r))
	}
	for range 200 {
		generatedByWords(t, crowdedList(r))
	}
	for range 300 {
		generatedByWords(t, fewPlaces(r))
	}
	for _, patterns := range patternLists()[:9] {
		generatedByWords(t, patterns)
	}
}
