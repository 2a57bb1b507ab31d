package munch

import (
	"slices"
	"testing"

	"munch/api"
)

// counted wants what P9 says of patterns with so many next sets (up to one above MaxSets) and states, by the words of the document and by the program.
func counted(t *testing.T, sets int, states int, patterns ...string) {
	t.Helper()
	wantMachine, want, gotSets, gotStates := machineByWords(patterns)
	if gotSets != sets || sets <= api.MaxSets && gotStates != states {
		t.Errorf("%q: by words %d next sets and %d states, want %d and %d", patterns, gotSets, gotStates, sets, states)
	}
	m, e := Build(patterns)
	if e != want || !sameMachine(m, wantMachine) {
		t.Errorf("Build(%q) = %v, %d, want %v, %d", patterns, m, e, wantMachine, want)
	}
	switch {
	case sets > api.MaxSets:
		notBuilt(t, api.ErrSets, patterns...)
	case states > api.MaxStates:
		notBuilt(t, api.ErrStates, patterns...)
	default:
		if len(m.Label) != states {
			t.Errorf("Build(%q) has %d states, want %d", patterns, len(m.Label), states)
		}
	}
}

func TestP9Places(t *testing.T) {
	// 96 places, the most, and 97.
	if m := built(t, ".{8}{6}{2}*"); len(m.Label) != 96 {
		t.Errorf("%d states, want 96", len(m.Label))
	}
	notBuilt(t, api.ErrPlaces, ".{8}{6}{2}*", "a")
	notBuilt(t, api.ErrPlaces, ".{8}{6}{2}*a")
	notBuilt(t, api.ErrPlaces, "(a|b|c){8}{4}", "d")
	if m := built(t, "(a|b|c){8}{4}"); len(m.Label) != 33 {
		t.Errorf("%d states, want 33", len(m.Label))
	}
	eight := slices.Repeat(list("[ab]{4}{3}"), 8)
	if m := built(t, eight...); len(m.Label) != 13 || m.Rules != 8 {
		t.Errorf("%d rules, %d states, want 8 and 13", m.Rules, len(m.Label))
	}
	eight[7] += "a"
	notBuilt(t, api.ErrPlaces, eight...)
}

// TestP9CountsOfNothing: counts that would be written out for ever, but for a 0, or for there being no place in them.
func TestP9CountsOfNothing(t *testing.T) {
	nine := times("{9}", 10)
	for _, c := range []struct {
		p    string
		same string
	}{
		{"()" + times("{9}", 12), ""}, {"(|)*" + times("{9}", 12), ""}, {"a" + nine + "{0}", ""}, {"a" + nine + "{0}b", "b"}, {"(a" + nine + "{0}b){9}", "b{9}"},
		{"((|)*" + times("{9}", 8) + "a){9}", "a{9}"}, {"(()" + nine + "a)*", "a*"}, {"(a{0}" + nine + ")b", "b"}, {"a{0,0}" + times("{8,9}", 6), ""}, {"(x" + times("{9}", 8) + "|y){0}a", "a"},
		{"((((((){9}){9}){9}){9}){9}){9}a", "a"}, {"((((((a{9}){9}){9}){9}){9}){0}|b)", "|b"}, {times("()", 20), ""}, {times("()", 10) + "a" + times("{1}", 6), "a"}, {"(" + times("|", 30) + "a){9}", "a{0,9}"},
		{"(" + times("()", 13) + "a){8}{6}", "a{8}{6}"},
	} {
		m, e := Build(list(c.p))
		if e != api.OK || !sameMachine(m, built(t, c.same)) {
			t.Errorf("Build(%q) = %v, %d, want the machine of %q", c.p, m, e, c.same)
		}
	}
}

func TestP9Sets(t *testing.T) {
	// Next sets that are alike: few states.
	counted(t, 128, 1, "[ab]*|[ab]*a[ab]{7}")
	counted(t, 200, 73, "[ab]*|[ab]*a[ab]{7}", "c{9}{7}c{8}")
	counted(t, 201, 74, "[ab]*|[ab]*a[ab]{7}", "c{9}{8}")
	// Next sets that differ in a rule which is no verdict.
	counted(t, 200, 73, "[ab]*", "[ab]*a[ab]{6}", "c{9}{7}c{8}")
	counted(t, 201, 74, "[ab]*", "[ab]*a[ab]{6}", "c{9}{8}")
	// Next sets that differ in places which match the same.
	counted(t, 13, 3, "pa|qa|ra|sa|ta|ua|va|wa|xa|ya|za")
	counted(t, 200, 63, "[ab]*|[ab]*a[ab]{7}", "pa|qa|ra|sa|ta|ua|va|wa|xa|ya|za", "c{9}{6}c{5}")
	counted(t, 201, 64, "[ab]*|[ab]*a[ab]{7}", "pa|qa|ra|sa|ta|ua|va|wa|xa|ya|za", "c{9}{6}c{6}")
	// No text is dead: the set of neither is not among them, and is not taken off.
	counted(t, 200, 73, "[ab]*|[ab]*a[ab]{7}", "c{9}{7}c{7}", `(.|\n)*`)
	counted(t, 201, 74, "[ab]*|[ab]*a[ab]{7}", "c{9}{7}c{8}", `(.|\n)*`)
	// Places behind which the same stands make one next set, whichever was read.
	counted(t, 172, 45, "[ab]*|[ab]*a[ab]{7}", "(c|d){9}{4}(c|d){7}")
	counted(t, 1, 1, "(a|b|c|d|e|f)*")
	// The next set of the empty text is come back to, and counts once.
	counted(t, 200, 200, "([ab]*a[ab]{6}c{9}{8})*")
	counted(t, 201, 201, "([ab]*a[ab]{6}c{9}{8}c)*")
	counted(t, 200, 73, "([ab]*(a[ab]{7})?c{9}{8})*")
	counted(t, 201, 74, "([ab]*(a[ab]{7})?c{9}{8}c)*")
	counted(t, 4, 4, "(a|b|c)(a|b|c)(a|b|c)")
}

func TestP9States(t *testing.T) {
	counted(t, 96, 96, "[ab]*a[ab]{5}", "c{9}{3}c{4}")
	counted(t, 97, 97, "[ab]*a[ab]{5}", "c{8}{4}")
	counted(t, 96, 96, "a{9}{9}a{7}{2}")
	counted(t, 97, 97, "a{8}{6}{2}")
	counted(t, 97, 96, "[ab]*a[ab]{5}", "c{9}{3}c{2}", "xd|yd")
	// More states than may be, and as many next sets as may be: and one more.
	counted(t, 200, 200, "[ab]*a[ab]{6}", "c{9}{7}c{8}")
	counted(t, 201, 201, "[ab]*a[ab]{6}", "c{9}{8}")
	most := list("[ab]*a[ab]{5}", "[de]*|[de]*d[de]{6}", "[fg]*|[fg]*f[fg]{5}", "[hi]*|[hi]*h[hi]{3}")
	counted(t, 200, 96, append(most, "c{5}{5}c", "pz|qz|rz|sz")...)
	counted(t, 201, 96, append(most, "c{5}{5}c", "pz|qz|rz|sz|tz")...)
	counted(t, 200, 97, append(most, "c{5}{5}c{2}", "pz|qz|rz")...)
	counted(t, 201, 97, append(most, "c{5}{5}c{2}", "pz|qz|rz|sz")...)
	// Each state has a label, and leads to the next one.
	m := built(t, "a{9}{9}a{7}{2}")
	for s, label := range m.Label {
		want, to := none, s+1
		if s == 95 {
			want, to = 0, none
		}
		if label != want || m.Next[2*s] != none || m.Next[2*s+1] != to {
			t.Errorf("the state %d has the label %d and leads to %d", s, label, m.Next[2*s+1])
		}
	}
}

func TestP9OrderOfErrors(t *testing.T) {
	tooManySets, tooManyStates := "(a|b)*a(a|b){7}", "(a|b)*a(a|b){6}"
	notBuilt(t, api.ErrRules)
	notBuilt(t, api.ErrRules, make([]string, 9)...)
	notBuilt(t, api.ErrRules, slices.Repeat(list("("), 9)...)
	for _, c := range []struct {
		p    string
		want api.Errno
	}{
		{times("a", 41), api.ErrLong}, {times("(", 41), api.ErrLong}, {"(", api.ErrForm}, {"((((((([b-a]", api.ErrForm}, {nested(7, "[b-a]"), api.ErrDeep}, {`[b-a][^\x00-\xff]`, api.ErrValue}, {`[^\x00-\xff]a{9}{9}{9}`, api.ErrEmpty}, {"(a|b)*a(a|b){9}{9}", api.ErrPlaces},
	} {
		notBuilt(t, c.want, c.p)
		notBuilt(t, c.want, tooManySets, c.p)
		notBuilt(t, c.want, c.p, tooManyStates)
	}
	notBuilt(t, api.ErrForm, "a", ")", times("a", 41))
	notBuilt(t, api.ErrEmpty, "a{9}{9}{9}", `[^\x00-\xff]`)
	notBuilt(t, api.ErrSets, tooManySets)
	notBuilt(t, api.ErrSets, tooManySets, "a{9}{8}")
	notBuilt(t, api.ErrSets, tooManyStates, "c{9}{8}")
	notBuilt(t, api.ErrStates, tooManyStates)
	notBuilt(t, api.ErrStates, "x", tooManyStates, "(a|b)*")
}
