package munch

import (
	"math/rand"
	"slices"
	"testing"

	"munch/api"
)

func listsOfMachine(m *api.Machine) []*[]int { return []*[]int{&m.Class, &m.Label, &m.Next} }

func clonedMachine(m api.Machine) api.Machine {
	return api.Machine{Rules: m.Rules, Class: slices.Clone(m.Class), Label: slices.Clone(m.Label), Next: slices.Clone(m.Next)}
}

// patternLists are lists of each answer that Build has.
func patternLists() [][]string {
	return [][]string{
		list("a"), list(""), list("(a|b)*abb"), list("ab", "a*"), list("if", "[a-z]+", " "), list(".", `\n`, "a{3}"), list("a{9}{9}a{7}{2}"), list("[ab]*|[ab]*a[ab]{7}", "c{9}{7}c{8}"), list("a", "b", "c", "d", "e", "f", "g", "h"),
		list(), make([]string, 9), list("a", "("), list("a", times("a", 41)), list(nested(7, "")), list("a{2,1}"), list(`[^\x00-\xff]`), list("a{9}{9}{9}"), list("(a|b)*a(a|b){7}"), list("(a|b)*a(a|b){6}"),
	}
}

func TestP2BuildWritesIntoNothing(t *testing.T) {
	for _, patterns := range patternLists() {
		room := append(slices.Clone(patterns), "spare", "room", "(")
		before := slices.Clone(room)
		m, e := Build(room[:len(patterns)])
		if !slices.Equal(room, before) {
			t.Errorf("Build wrote into what it was handed: %q, before %q", room, before)
		}
		want, wantError := Build(patterns)
		if e != wantError || !sameMachine(m, want) {
			t.Errorf("Build(%q) with spare room: %v, %d, want %v, %d", patterns, m, e, want, wantError)
		}
		// What is written into the list behind the call changes nothing that came out.
		early := clonedMachine(m)
		for i := range room {
			room[i] = "zz*"
		}
		if again, e := Build(patterns); e != wantError || !sameMachine(m, early) || !sameMachine(again, want) {
			t.Errorf("Build(%q) behind the caller's writing into its list: %v, want %v", patterns, again, want)
		}
	}
}

func TestP2MachinesAreFresh(t *testing.T) {
	for _, patterns := range patternLists() {
		first, _ := Build(patterns)
		second, _ := Build(patterns)
		want := clonedMachine(first)
		for i, l := range listsOfMachine(&second) {
			fill(l, 1000+i)
		}
		third, _ := Build(patterns)
		if !sameMachine(first, want) || !sameMachine(third, want) {
			t.Errorf("Build(%q) behind the caller's writing into another answer: %v, %v, want %v", patterns, first, third, want)
		}
		for i, l := range listsOfMachine(&third) {
			fill(l, 2000+i)
		}
		for i, l := range listsOfMachine(&first) {
			fill(l, 3000+i)
		}
		for k, m := range []api.Machine{third, second, first} {
			for i, l := range listsOfMachine(&m) {
				for _, n := range (*l)[:cap(*l)] {
					if n != []int{2000, 1000, 3000}[k]+i {
						t.Fatalf("Build(%q): two lists share room", patterns)
					}
				}
			}
		}
		if again, _ := Build(patterns); !sameMachine(again, want) {
			t.Errorf("Build(%q) behind the caller's writing: %v, want %v", patterns, again, want)
		}
	}
}

// TestP2BuildHangsOnItsArgumentAlone lets calls of several lists follow one another in any order.
func TestP2BuildHangsOnItsArgumentAlone(t *testing.T) {
	r := rand.New(rand.NewSource(22))
	lists := patternLists()
	var machines []api.Machine
	var errors []api.Errno
	for _, patterns := range lists {
		m, e := Build(patterns)
		machines, errors = append(machines, clonedMachine(m)), append(errors, e)
	}
	x := lexerOfWords(t)
	for range 1500 {
		i := r.Intn(len(lists))
		if m, e := Build(lists[i]); e != errors[i] || !sameMachine(m, machines[i]) {
			t.Fatalf("Build(%q) = %v, %d, want %v, %d", lists[i], m, e, machines[i], errors[i])
		}
		Check(lists[r.Intn(len(lists))])
		x.Scan("if iff")
	}
}

// anyPatterns are patterns of which some bytes are turned, and strings of any bytes.
func anyPatterns(r *rand.Rand) []string {
	marks := `\.[](){}|*+?^-ab0,9xnf`
	var patterns []string
	for range r.Intn(10) {
		p := []byte(scribble(r, 1+r.Intn(8)))
		for range r.Intn(3) {
			p[r.Intn(len(p))] = marks[r.Intn(len(marks))]
		}
		if r.Intn(30) == 0 {
			p[r.Intn(len(p))] = byte(r.Intn(256))
		}
		if r.Intn(30) == 0 {
			p = make([]byte, r.Intn(50))
			r.Read(p)
		}
		patterns = append(patterns, string(p))
	}
	return patterns
}

func TestP1AnyPatterns(t *testing.T) {
	r := rand.New(rand.NewSource(11))
	seen := map[api.Errno]int{}
	for range 30000 {
		patterns := anyPatterns(r)
		m, e := Build(patterns)
		seen[e]++
		want, _, _ := Check(patterns)
		if want != api.OK && e != want || want == api.OK && e != api.OK && e != api.ErrSets && e != api.ErrStates {
			t.Fatalf("Build(%q): the error %d, and of Check %d", patterns, e, want)
		}
		if e != api.OK {
			notBuilt(t, e, patterns...)
		} else if !soundMachine(m) || m.Rules != len(patterns) {
			t.Fatalf("Build(%q) = %v, which is not sound", patterns, m)
		}
	}
	if seen[api.OK] < 500 {
		t.Errorf("the errors %v", seen)
	}
	notBuilt(t, api.ErrLong, times("(", 1000000))
	notBuilt(t, api.ErrLong, "a", times("\xff", 1000000))
	notBuilt(t, api.ErrRules, make([]string, 100000)...)
}

// soundMachine tells in the document's words whether a machine is sound.
func soundMachine(m api.Machine) bool {
	if m.Rules < 1 || m.Rules > 8 || len(m.Class) != 256 || len(m.Label) < 1 || len(m.Label) > 96 || m.Class[0] != 0 {
		return false
	}
	for b, c := range m.Class {
		if c < 0 || b > 0 && c > slices.Max(m.Class[:b])+1 {
			return false
		}
	}
	for _, l := range m.Label {
		if l < none || l >= m.Rules {
			return false
		}
	}
	for _, to := range m.Next {
		if to < none || to >= len(m.Label) {
			return false
		}
	}
	return len(m.Next) == len(m.Label)*(slices.Max(m.Class)+1)
}

// TestP1BuildEnds takes lists that ask for much work.
func TestP1BuildEnds(t *testing.T) {
	for _, c := range []struct {
		patterns []string
		want     api.Errno
	}{
		{list(".{8}{6}{2}"), api.ErrStates},
		{list(".*{8}{6}{2}"), api.OK},
		{list("(.?{8}{6}{2})*"), api.OK},
		{list("(.|.){8}{6}*"), api.OK},
		{slices.Repeat(list("(.*[^a]*[^b]+[^c]?[^d]*[^e]*){2}"), 8), api.OK},
		{list("([^a][^b]|[^c][^d]|[^e][^f]|[^g][^h])*", "([^i][^j]|[^k][^l]|[^m][^n]|[^o][^p])*", "([^q][^r]|[^s][^t]|[^u][^v]|[^w][^x])*"), api.OK},
		{slices.Repeat(list("((((((()"+times("{9}", 10)+"){9}))))))"), 8), api.ErrLong},
		{slices.Repeat(list("(((((()"+times("{9}", 7)+"){9}))))"), 8), api.OK},
		{list("(" + times("()", 13) + "a){8}{6}*"), api.OK},
	} {
		if m, e := Build(c.patterns); e != c.want {
			t.Errorf("Build(%q): the error %d, want %d (%d states)", c.patterns, e, c.want, len(m.Label))
		}
	}
}
