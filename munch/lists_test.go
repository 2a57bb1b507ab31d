package munch

import (
	"fmt"
	"math/rand"
	"slices"
	"testing"

	"munch/api"
)

// scribble writes a pattern of about n places out of few bytes, so that its parts match much of what the others match.
func scribble(r *rand.Rand, n int) string {
	if n <= 1 {
		return list("a", "b", "[ab]", "c", ".", "[^a]", "[a-c]", `\n`, "[bc]", `\x00`, "()")[r.Intn(11)]
	}
	k := 1 + r.Intn(n-1)
	x, y := scribble(r, k), scribble(r, n-k)
	switch r.Intn(10) {
	case 0, 1:
		return "(" + x + "|" + y + ")"
	case 2:
		return "(" + x + ")*" + y
	case 3:
		return x + "(" + y + ")?"
	case 4:
		return x + "(" + y + ")+"
	case 5:
		return x + fmt.Sprintf("%s{%d,%d}", y, r.Intn(2), 1+r.Intn(3))
	case 6:
		return fmt.Sprintf("(%s){%d}", x, r.Intn(4)) + y
	case 7:
		return "(|" + x + ")" + y
	}
	return x + y
}

// randomList answers patterns that Check lets pass.
func randomList(r *rand.Rand) []string {
	for {
		var patterns []string
		for range 1 + r.Intn(4) {
			p := scribble(r, 1+r.Intn(12))
			if r.Intn(4) == 0 {
				p, _, _, _ = writePattern(r)
			}
			if e, _, _ := Check(list(p)); e == api.OK {
				patterns = append(patterns, p)
			}
		}
		if e, _, _ := Check(patterns); e == api.OK {
			return patterns
		}
	}
}

// crowdedList answers patterns with many next sets, near the bounds.
func crowdedList(r *rand.Rand) []string {
	for {
		a, b := r.Intn(3), r.Intn(3)
		patterns := list(
			list("[ab]*a[ab]{%d}", "[ab]*|[ab]*a[ab]{%d}", "(a|b)*a(a|b|c?){%d}")[a],
			list("[cd]*c[cd]{%d}", "[cd]*|[cd]*d[cd]{%d}", "(.[ac]{%d})*")[b],
			"e{%d}{9}f", "(f|g){%d}{5}", "a*", scribble(r, 3))
		for i, most := range []int{7, 6, 8, 6} {
			patterns[i] = fmt.Sprintf(patterns[i], r.Intn(most+1))
		}
		r.Shuffle(len(patterns), func(i int, k int) { patterns[i], patterns[k] = patterns[k], patterns[i] })
		patterns = patterns[:1+r.Intn(6)]
		if e, _, _ := Check(patterns); e == api.OK {
			return patterns
		}
	}
}

func builtByWords(t *testing.T, patterns []string) api.Errno {
	t.Helper()
	want, wantError, sets, states := machineByWords(patterns)
	m, e := Build(patterns)
	if e != wantError || !sameMachine(m, want) {
		t.Fatalf("Build(%q) = %v, %d, want %v, %d (%d next sets, %d states)", patterns, m, e, want, wantError, sets, states)
	}
	return e
}

func TestP9RandomLists(t *testing.T) {
	r := rand.New(rand.NewSource(9))
	for range 4000 {
		builtByWords(t, randomList(r))
	}
	seen := map[api.Errno]int{}
	for range 500 {
		seen[builtByWords(t, crowdedList(r))]++
	}
	t.Log("how often each error was wanted:", seen)
	for _, e := range []api.Errno{api.OK, api.ErrSets, api.ErrStates} {
		if seen[e] < 20 {
			t.Errorf("the crowded lists have the error %d but %d times", e, seen[e])
		}
	}
}

// TestP9ShortLists takes all lists of one pattern of at most five bytes out of a few.
func TestP9ShortLists(t *testing.T) {
	texts := list("")
	for range 5 {
		for _, text := range texts {
			for _, b := range list("a", "b", "(", ")", "|", "*", "?") {
				texts = append(texts, text+b)
			}
		}
		slices.Sort(texts)
		texts = slices.Compact(texts)
	}
	n := 0
	for _, p := range texts {
		if e, _, _ := Check(list(p)); e == api.OK {
			n++
			builtByWords(t, list(p))
		}
	}
	if n < 1500 {
		t.Errorf("%d patterns", n)
	}
}

// randomText answers a text that for the most part goes on where it is not dead, and likes to end where a rule matches.
func randomText(r *rand.Rand, m api.Machine) string {
	text := ""
	for len(text) < 12 && r.Intn(10) > 0 {
		b := byte(r.Intn(256))
		if r.Intn(3) == 0 {
			b = "abc\n\x00"[r.Intn(5)]
		}
		for k := 0; k < 256 && r.Intn(50) > 0 && walk(m, text+bytesOf(int(b))) == none; k++ {
			b++
		}
		text += bytesOf(int(b))
		if verdictOf(m, text) != none && r.Intn(3) == 0 {
			break
		}
	}
	return text
}

// TestP9RandomTexts holds machines against the table of what a pattern matches, text by text.
func TestP9RandomTexts(t *testing.T) {
	r := rand.New(rand.NewSource(10))
	seen := map[bool]int{}
	for range 1000 {
		patterns := randomList(r)
		m, e := Build(patterns)
		if e != api.OK {
			continue
		}
		var trees []*tree
		for _, p := range patterns {
			trees = append(trees, treeOf(p))
		}
		for range 30 {
			text := randomText(r, m)
			want := verdictByWords(trees, text)
			seen[want != none]++
			if got := verdictOf(m, text); got != want {
				t.Fatalf("Build(%q): the verdict of %q is %d, want %d", patterns, text, got, want)
			}
		}
	}
	if seen[true] < 5000 || seen[false] < 5000 {
		t.Errorf("how often a rule matched: %v", seen)
	}
}

// fewPlaces answers patterns with at most six places in all, of eight rules at most.
func fewPlaces(r *rand.Rand) []string {
	for {
		var patterns []string
		for places := 6; places > 0 && len(patterns) < 1+r.Intn(8); {
			n := 1 + r.Intn(places)
			places -= n
			patterns = append(patterns, tangle(r, n))
		}
		for len(patterns) < 8 && r.Intn(3) == 0 {
			patterns = append(patterns, list("", "()*", "a{0}", "a{9}{0}|")[r.Intn(4)])
		}
		if e, _, _ := Check(patterns); e == api.OK {
			return patterns
		}
	}
}

// tangle writes a pattern of n places, each of some of six bytes, with many ways through it.
func tangle(r *rand.Rand, n int) string {
	if n == 1 {
		place := "[" + list("", "^")[r.Intn(2)]
		for b := range 6 {
			if r.Intn(2) == 0 || b == 5 && len(place) < 3 {
				place += string(rune('a' + b))
			}
		}
		return place + "]" + list("", "", "*", "?")[r.Intn(4)]
	}
	k := 1 + r.Intn(n-1)
	x, y := tangle(r, k), tangle(r, n-k)
	switch r.Intn(6) {
	case 0:
		return "(" + x + "|" + y + ")"
	case 1:
		return "(" + x + "|" + y + ")*"
	case 2:
		return "(" + x + y + ")*"
	case 3:
		return "(" + x + y + ")+"
	}
	return x + y
}

func TestP12SixPlaces(t *testing.T) {
	most := 0
	for _, patterns := range [][]string{
		list("[ab]*a[ab]{4}"), list("[ab]*", "a[ab]{4}"), list("([^a]?[^b]?[^c]?[^d]?[^e]?[^f]?)*"), list("([b-f]|[^b][^c][^d][^e][^f])*"), list("a{6}"), list("a?{6}"), list("a", "b", "c", "d", "e", "f", "", ""), list(".*", ".*", ".*", ".*", ".*", ".*"), list("", "", "", "", "", "", "", ""), list("a", "a{2}", "a{3}"),
	} {
		most = max(most, len(built(t, patterns...).Label))
	}
	r := rand.New(rand.NewSource(12))
	for range 20000 {
		patterns := fewPlaces(r)
		m, e := Build(patterns)
		if e != api.OK {
			t.Fatalf("Build(%q): the error %d, with six places at most", patterns, e)
		}
		most = max(most, len(m.Label))
	}
	t.Log("the most states with six places:", most)
	if most < 32 {
		t.Errorf("at most %d states with six places", most)
	}
}
