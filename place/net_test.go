package place

import (
	"slices"
	"testing"

	"munch/api"
)

func netOf(t *testing.T, patterns ...string) Net {
	t.Helper()
	n, e := Of(patterns)
	if e != api.OK {
		t.Fatalf("Of(%q): the error %d", patterns, e)
	}
	return n
}

// numbers answers the places of a next set, and the rules.
func numbers(n Next) ([]int, []int) {
	var places, rules []int
	for p, is := range n.Places {
		if is {
			places = append(places, p)
		}
	}
	for r, is := range n.Rules {
		if is {
			rules = append(rules, r)
		}
	}
	return places, rules
}

func TestPlacesAreWrittenOut(t *testing.T) {
	for _, c := range []struct {
		p    string
		want string // of each place the least byte
	}{
		{"", ""}, {"abc", "abc"}, {"a{3}[bc]{0,2}", "aaabb"}, {"(a{3}b){2}", "aaabaaab"}, {"a{0}", ""}, {"(a|b{0}c)*{2}", "acac"}, {"a{2}{3}", "aaaaaa"}, {"(a{9}{0}b){2,3}", "bbb"}, {"a|(b|c)?d+", "abcd"},
	} {
		n := netOf(t, c.p)
		got := ""
		for _, has := range n.Has {
			got += string(rune(slices.Index(has[:], true)))
		}
		if got != c.want || len(n.Behind) != len(n.Has) {
			t.Errorf("the places of %q are %q, want %q", c.p, got, c.want)
		}
	}
}

func TestNextSets(t *testing.T) {
	for _, c := range []struct {
		patterns      []string
		text          string
		places, rules []int
	}{
		{[]string{""}, "", nil, []int{0}}, {[]string{""}, "a", nil, nil},
		{[]string{"ab"}, "", []int{0}, nil}, {[]string{"ab"}, "a", []int{1}, nil}, {[]string{"ab"}, "ab", nil, []int{0}}, {[]string{"ab"}, "b", nil, nil}, {[]string{"ab"}, "aba", nil, nil},
		{[]string{"(a|b)*abb"}, "", []int{0, 1, 2}, nil}, {[]string{"(a|b)*abb"}, "b", []int{0, 1, 2}, nil}, {[]string{"(a|b)*abb"}, "a", []int{0, 1, 2, 3}, nil}, {[]string{"(a|b)*abb"}, "babb", []int{0, 1, 2}, []int{0}},
		{[]string{"a{2,3}"}, "aa", []int{2}, []int{0}}, {[]string{"a{0,2}"}, "", []int{0, 1}, []int{0}}, {[]string{"a{0,2}"}, "a", []int{1}, []int{0}},
		{[]string{"a+b?"}, "a", []int{0, 1}, []int{0}}, {[]string{"(a?b?)+"}, "b", []int{0, 1}, []int{0}}, {[]string{"a?b?c"}, "", []int{0, 1, 2}, nil}, {[]string{"ab?c?"}, "a", []int{1, 2}, []int{0}},
		{[]string{"a|a"}, "", []int{0, 1}, nil}, {[]string{"ax|ay"}, "a", []int{1, 3}, nil},
		{[]string{"a", "[ab]c*", "a*"}, "", []int{0, 1, 3}, []int{2}}, {[]string{"a", "[ab]c*", "a*"}, "a", []int{2, 3}, []int{0, 1, 2}}, {[]string{"a", "[ab]c*", "a*"}, "b", []int{2}, []int{1}},
	} {
		n := netOf(t, c.patterns...)
		set := n.First
		for i := range len(c.text) {
			set = n.After(set, c.text[i])
		}
		places, rules := numbers(set)
		if !slices.Equal(places, c.places) || !slices.Equal(rules, c.rules) {
			t.Errorf("the next set of %q by %q: %v and %v, want %v and %v", c.text, c.patterns, places, rules, c.places, c.rules)
		}
	}
}

func TestOfRefuses(t *testing.T) {
	for _, c := range []struct {
		patterns []string
		want     api.Errno
	}{
		{nil, api.ErrRules}, {make([]string, 9), api.ErrRules}, {[]string{"a", "("}, api.ErrForm}, {[]string{"a{9}{9}", "a{8}{2}"}, api.ErrPlaces},
	} {
		if n, e := Of(c.patterns); e != c.want || len(n.Has) != 0 {
			t.Errorf("Of(%q): the error %d, want %d", c.patterns, e, c.want)
		}
	}
	if n := netOf(t, "a{8}{6}{2}"); len(n.Has) != api.MaxPlaces {
		t.Errorf("%d places, want %d", len(n.Has), api.MaxPlaces)
	}
}
