package munch

import (
	"fmt"
	"slices"
	"strings"
	"testing"

	"munch/api"
)

func sameMachine(a api.Machine, b api.Machine) bool {
	return a.Rules == b.Rules && slices.Equal(a.Class, b.Class) && slices.Equal(a.Label, b.Label) && slices.Equal(a.Next, b.Next)
}

func built(t *testing.T, patterns ...string) api.Machine {
	t.Helper()
	m, e := Build(patterns)
	if e != api.OK {
		t.Fatalf("Build(%q): the error %d", patterns, e)
	}
	return m
}

// notBuilt wants an error, and nothing beside it.
func notBuilt(t *testing.T, want api.Errno, patterns ...string) {
	t.Helper()
	m, e := Build(patterns)
	if e != want || m.Rules != 0 || len(m.Class) != 0 || len(m.Label) != 0 || len(m.Next) != 0 {
		t.Errorf("Build(%.200q) = %.200v, %d, want nothing and %d", patterns, m, e, want)
	}
}

// builtAs wants a machine. Of the classes those from 1 on are told, each by its bytes.
func builtAs(t *testing.T, patterns []string, classes []string, label []int, next []int) {
	t.Helper()
	class := make([]int, 256)
	for i, bytes := range classes {
		for k := range len(bytes) {
			class[bytes[k]] = i + 1
		}
	}
	want := api.Machine{Rules: len(patterns), Class: class, Label: label, Next: next}
	m, e := Build(patterns)
	if e != api.OK || !sameMachine(m, want) {
		t.Errorf("Build(%q) = %v, %d, want %v", patterns, m, e, want)
	}
}

// walk answers the state to which a text leads, or None.
func walk(m api.Machine, text string) int {
	classes := slices.Max(m.Class) + 1
	state := 0
	for i := range len(text) {
		if state == none {
			return none
		}
		state = m.Next[state*classes+m.Class[text[i]]]
	}
	return state
}

func verdictOf(m api.Machine, text string) int {
	if s := walk(m, text); s != none {
		return m.Label[s]
	}
	return none
}

func TestP9Examples(t *testing.T) {
	builtAs(t, list("a"), list("a"), []int{none, 0}, []int{none, 1, none, none})
	builtAs(t, list("(a|b)*abb"), list("a", "b"), []int{none, none, none, 0}, []int{none, 1, 0, none, 1, 2, none, 1, 3, none, 1, 0})
	builtAs(t, list(""), nil, []int{0}, []int{none})
	notBuilt(t, api.ErrStates, "(a|b)*a(a|b){6}")
	notBuilt(t, api.ErrSets, "(a|b)*a(a|b){7}")
	if m := built(t, "(a|b)*a(a|b){5}"); len(m.Label) != 64 {
		t.Errorf("%d states, want 64", len(m.Label))
	}
	builtAs(t, list("[ab]*|[ab]*a[ab]{6}"), list("ab"), []int{0}, []int{none, 0})
}

// TestP9OneByte: what each way of writing one place matches.
func TestP9OneByte(t *testing.T) {
	want := map[string]func(b int) bool{
		".":              func(b int) bool { return b != 10 },
		`\n`:             func(b int) bool { return b == 10 },
		`\t`:             func(b int) bool { return b == 9 },
		"[a-c]":          func(b int) bool { return b >= 'a' && b <= 'c' },
		"[^a-c]":         func(b int) bool { return b < 'a' || b > 'c' },
		"[xa-cb-dz]":     func(b int) bool { return b >= 'a' && b <= 'd' || b == 'x' || b == 'z' },
		"[^a\\n]":        func(b int) bool { return b != 'a' && b != 10 },
		`[\x00-\xff]`:    func(b int) bool { return true },
		`[\x80-\xff]`:    func(b int) bool { return b >= 128 },
		`[^\x00-\xfe]`:   func(b int) bool { return b == 255 },
		`[\--\]n]`:       func(b int) bool { return b >= '-' && b <= ']' || b == 'n' },
		"[.]":            func(b int) bool { return b == '.' },
		"[$(-*]":         func(b int) bool { return b == '$' || b >= '(' && b <= '*' },
		"(b|[bd]|\\x66)": func(b int) bool { return b == 'b' || b == 'd' || b == 'f' },
	}
	for b := range 256 {
		itself := func(other int) bool { return other == b }
		want[fmt.Sprintf(`\x%02x`, b)] = itself
		want[fmt.Sprintf(`[\x%02x]`, b)] = itself
		want[fmt.Sprintf(`[\x%02x-\x%02x]`, b, b)] = itself
		one := bytesOf(b)
		if !strings.Contains(`\.[](){}|*+?`, one) {
			want[one] = itself
		}
		if !strings.Contains(`\[]^-`, one) {
			want["["+one+"]"] = itself
		}
		if strings.Contains(`\.[](){}|*+?^-`, one) {
			want[`\`+one] = itself
			want[`[\`+one+"]"] = itself
		}
	}
	for p, matches := range want {
		class := make([]int, 256)
		for b := range class {
			if matches(b) != matches(0) {
				class[b] = 1
			}
		}
		next := []int{none, 1, none, none}
		if matches(0) {
			next = []int{1, none, none, none}
		}
		if slices.Max(class) == 0 {
			next = []int{1, none}
		}
		machine := api.Machine{Rules: 1, Class: class, Label: []int{none, 0}, Next: next}
		if m := built(t, p); !sameMachine(m, machine) {
			t.Errorf("Build(%q) = %v, want %v", p, m, machine)
		}
	}
}

// TestP9HowMany: how many a's in a row a pattern matches, up to 25 (with more: all numbers above the last one too), and how many states that takes.
func TestP9HowMany(t *testing.T) {
	for _, c := range []struct {
		p      string
		many   []int
		more   bool
		states int
	}{
		{"a", []int{1}, false, 2}, {"a*", []int{0}, true, 1}, {"a+", []int{1}, true, 2}, {"a?", []int{0, 1}, false, 2},
		{"a{1}", []int{1}, false, 2}, {"a{3}", []int{3}, false, 4}, {"a{9}", []int{9}, false, 10},
		{"a{2,4}", []int{2, 3, 4}, false, 5}, {"a{0,2}", []int{0, 1, 2}, false, 3}, {"a{0,1}", []int{0, 1}, false, 2}, {"a{2,2}", []int{2}, false, 3},
		{"a{0}", []int{0}, false, 1}, {"a{0,0}", []int{0}, false, 1}, {"(aa){0}a", []int{1}, false, 2}, {"aa{0}a", []int{2}, false, 3},
		{"a{0}*", []int{0}, false, 1}, {"a{0}+", []int{0}, false, 1}, {"a{0}?", []int{0}, false, 1}, {"a{0}{9}", []int{0}, false, 1}, {"a{9}{0}", []int{0}, false, 1}, {"(a{0}|a){2}", []int{0, 1, 2}, false, 3},
		{"a{2}{3}", []int{6}, false, 7}, {"a{3}{2}", []int{6}, false, 7}, {"a{1,2}{2}", []int{2, 3, 4}, false, 5}, {"a{2}{1,2}", []int{2, 4}, false, 5}, {"a{2,3}{0,2}", []int{0, 2, 3, 4, 5, 6}, false, 7}, {"(a{3}a){2}", []int{8}, false, 9}, {"(a{2}|a{5}){2}", []int{4, 7, 10}, false, 11},
		{"a{2}*", []int{0, 2, 4, 6, 8, 10, 12, 14, 16, 18, 20, 22, 24}, false, 2}, {"a*{2}", []int{0}, true, 1}, {"a{2}+", []int{2, 4, 6, 8, 10, 12, 14, 16, 18, 20, 22, 24}, false, 3}, {"a+{2}", []int{2}, true, 3}, {"a+{0,2}", []int{0}, true, 1}, {"a?{3}", []int{0, 1, 2, 3}, false, 4}, {"a{2}?", []int{0, 2}, false, 3}, {"a{2,3}*", []int{0, 2}, true, 3},
		{"a+?", []int{0}, true, 1}, {"a?+", []int{0}, true, 1}, {"a**", []int{0}, true, 1}, {"a++", []int{1}, true, 2}, {"a??", []int{0, 1}, false, 2}, {"a+*", []int{0}, true, 1}, {"a*+", []int{0}, true, 1},
		{"aa*", []int{1}, true, 2}, {"aa+", []int{2}, true, 3}, {"aa?", []int{1, 2}, false, 3}, {"aa{2}", []int{3}, false, 4}, {"(aa)*", []int{0, 2, 4, 6, 8, 10, 12, 14, 16, 18, 20, 22, 24}, false, 2}, {"(aa)+a", []int{3, 5, 7, 9, 11, 13, 15, 17, 19, 21, 23, 25}, false, 4}, {"(aa|aaa)*", []int{0, 2}, true, 3}, {"aaa|a|aaaaa", []int{1, 3, 5}, false, 6},
		{"", []int{0}, false, 1}, {"()", []int{0}, false, 1}, {"|", []int{0}, false, 1}, {"(|)", []int{0}, false, 1}, {"()*", []int{0}, false, 1}, {"(|)+", []int{0}, false, 1}, {"(){9}", []int{0}, false, 1},
		{"a|", []int{0, 1}, false, 2}, {"|a", []int{0, 1}, false, 2}, {"a||a", []int{0, 1}, false, 2}, {"(|a)a", []int{1, 2}, false, 3}, {"(a|)a", []int{1, 2}, false, 3}, {"a(|a)", []int{1, 2}, false, 3}, {"(|a)*", []int{0}, true, 1}, {"(|a)+", []int{0}, true, 1}, {"(|a){2}", []int{0, 1, 2}, false, 3}, {"(|aa){2}", []int{0, 2, 4}, false, 5}, {"(a|aa){2,3}", []int{2, 3, 4, 5, 6}, false, 7}, {"()a()", []int{1}, false, 2}, {"(()|a)(|())a", []int{1, 2}, false, 3},
	} {
		m := built(t, c.p)
		if len(m.Label) != c.states {
			t.Errorf("Build(%q) has %d states, want %d", c.p, len(m.Label), c.states)
		}
		for n := range 26 {
			want := none
			if slices.Contains(c.many, n) || c.more && n > slices.Max(c.many) {
				want = 0
			}
			if got := verdictOf(m, times("a", n)); got != want {
				t.Errorf("Build(%q): the verdict of %d a's is %d, want %d", c.p, n, got, want)
			}
		}
		if got := walk(m, "b"); got != none {
			t.Errorf("Build(%q): b leads to %d", c.p, got)
		}
	}
}

// TestP9Rows: what stands behind what, and to what a suffix belongs.
func TestP9Rows(t *testing.T) {
	for _, c := range []struct {
		p       string
		matched []string
		not     []string
	}{
		{"abc", list("abc"), list("", "a", "ab", "abcc", "acb", "bc")},
		{"ab*", list("a", "ab", "abbb"), list("", "b", "abab", "aab")},
		{"(ab)*", list("", "ab", "abab"), list("a", "abb", "aba", "ba")},
		{"ab|cd", list("ab", "cd"), list("abd", "acd", "abcd", "")},
		{"a(b|c)d", list("abd", "acd"), list("ad", "ab", "cd", "abcd")},
		{"ab|c*", list("ab", "", "c", "ccc"), list("abc", "abab", "a")},
		{"a(b|)c", list("abc", "ac"), list("a", "ab", "abbc")},
		{"(a|b|)(c|)", list("", "a", "b", "c", "ac", "bc"), list("ab", "cc", "ca")},
		{"(a*b)*c", list("c", "bc", "abc", "aababbc"), list("ac", "abac", "")},
		{"(a|b)+c?", list("a", "ba", "abc", "bbbc"), list("", "c", "acc", "aca")},
		{"(ab?){2,3}", list("aa", "aba", "aab", "abab", "aaa", "ababab"), list("a", "ab", "aaaa", "abb", "abababab", "b")},
		{"(ab{2}){2}", list("abbabb"), list("abab", "abbab", "abb", "abbabbabb")},
		{"(a|b{2}){0,2}c", list("c", "ac", "bbc", "abbc", "bbac", "bbbbc", "aac"), list("", "bc", "abc", "aaac", "bbbc")},
		{"(a?b?c?)+", list("", "abc", "cba", "ccaab"), list("d", "abd")},
		{"a(b(c(d(e(f)*)*)*)*)*", list("a", "ab", "abcdef", "abcdeff", "abbcdcdefbb"), list("", "b", "ac", "abd")},
		{`a.\.`, list("ab.", "a..", "a\x00.", "a\xff."), list("a\n.", "abb", "a.")},
		{"[^\x00-`]+\\x00", list("a\x00", "\xffz\x00"), list("\x00", "A\x00", "aA\x00")},
	} {
		m := built(t, c.p)
		for _, text := range c.matched {
			if got := verdictOf(m, text); got != 0 {
				t.Errorf("Build(%q): the verdict of %q is %d, want 0", c.p, text, got)
			}
		}
		for _, text := range c.not {
			if got := verdictOf(m, text); got != none {
				t.Errorf("Build(%q): the verdict of %q is %d, want None", c.p, text, got)
			}
		}
	}
}

func TestP9NumbersOfStates(t *testing.T) {
	// By the bytes from the state 0 on: b before c, though c stands first.
	builtAs(t, list("cx|by"), list("b", "c", "x", "y"), []int{none, none, none, 0},
		[]int{none, 1, 2, none, none, none, none, none, none, 3, none, none, none, 3, none, none, none, none, none, none})
	// State by state: what the state 1 leads to comes behind all that the state 0 leads to.
	builtAs(t, list("b(a|c)", "ab"), list("a", "b", "c"), []int{none, none, none, 1, 0},
		[]int{none, 1, 2, none, none, none, 3, none, none, 4, none, 4, none, none, none, none, none, none, none, none})
	// The states of one byte: as they are come upon, not by rule.
	builtAs(t, list("c", "b", "a"), list("a", "b", "c"), []int{none, 2, 1, 0},
		[]int{none, 1, 2, 3, none, none, none, none, none, none, none, none, none, none, none, none})
	// The state 0 may be come back to.
	builtAs(t, list("(ab)*"), list("a", "b"), []int{0, none}, []int{none, 1, none, none, none, 0})
	// Of texts that are alike the shortest counts: aab is like c.
	builtAs(t, list("(aab|c)d"), list("a", "b", "c", "d"), []int{none, none, none, none, 0},
		[]int{none, 1, none, 2, none, none, 3, none, none, none, none, none, none, none, 4, none, none, 2, none, none, none, none, none, none, none})
	// The bytes are taken as numbers without a sign.
	builtAs(t, list("\xff", "\x7f", "\x80"), list("\x7f", "\x80", "\xff"), []int{none, 1, 2, 0},
		[]int{none, 1, 2, 3, none, none, none, none, none, none, none, none, none, none, none, none})
}

func TestP9NumbersOfClasses(t *testing.T) {
	for _, c := range []struct {
		p     string
		class func(b int) int
	}{
		{"ba", func(b int) int { return strings.Index("ab", bytesOf(b)) + 1 }},
		{"b[ac]", func(b int) int { return []int{0, 1, 2, 1}[strings.Index("abc", bytesOf(b))+1] }},
		{"[ab]c|d", func(b int) int { return []int{0, 1, 1, 2, 3}[strings.Index("abcd", bytesOf(b))+1] }},
		{`\x00`, func(b int) int { return min(b, 1) }},
		{`\xff`, func(b int) int { return b / 255 }},
		{`\x00|[\x01-\x7f]a`, func(b int) int {
			switch {
			case b == 0:
				return 0
			case b == 'a':
				return 2
			case b < 128:
				return 1
			}
			return 3
		}},
		{".", func(b int) int { return strings.Index("\n", bytesOf(b)) + 1 }},
		{`[\x00-\xff]`, func(b int) int { return 0 }},
		{`[\x80-\xff]*`, func(b int) int { return b / 128 }},
	} {
		m := built(t, c.p)
		for b, got := range m.Class {
			if want := c.class(b); len(m.Class) != 256 || got != want {
				t.Errorf("Build(%q): the byte %d of %d is of the class %d, want %d", c.p, b, len(m.Class), got, want)
			}
		}
	}
	// Places may tell bytes apart that no state does.
	for _, p := range list("a|b|c|d|e", "[abc]|[cde]", "ax|[bc]x|[cde]x", "(a|[b-e])*", "a*|[a-e]*|e?") {
		if m := built(t, p); slices.Contains(m.Class[:'a'], 1) || slices.Min(m.Class['a':'f']) != 1 || slices.Max(m.Class['a':'f']) != 1 {
			t.Errorf("Build(%q): the classes %v", p, m.Class)
		}
	}
	// Each place tells one byte from all others.
	m := built(t, "abcdefghijklmnopqrstuvwxyzABCDEFGHIJKLMN", "OPQRSTUVWXYZ0123456789!#$%&/=@~^-_;:,<>'", "\"` \x00\x01\x02\x03\x04\x05\x06\x07\x08\n\r\xf0")
	if got := slices.Max(m.Class) + 1; got != 96 || len(m.Label) != 96 {
		t.Errorf("%d classes and %d states", got, len(m.Label))
	}
}

func TestP9SeveralRules(t *testing.T) {
	builtAs(t, list("a", "a"), list("a"), []int{none, 0}, []int{none, 1, none, none})
	builtAs(t, list("a", "a+"), list("a"), []int{none, 0, 1}, []int{none, 1, none, 2, none, 2})
	builtAs(t, list("a+", "a"), list("a"), []int{none, 0}, []int{none, 1, none, 1})
	builtAs(t, list("[ab]", "a"), list("ab"), []int{none, 0}, []int{none, 1, none, none})
	builtAs(t, list("a", "[ab]"), list("a", "b"), []int{none, 0, 1}, []int{none, 1, 2, none, none, none, none, none, none})
	builtAs(t, list("", ""), nil, []int{0}, []int{none})
	builtAs(t, list("a*", ""), list("a"), []int{0}, []int{none, 0})
	builtAs(t, list("", "a*"), list("a"), []int{0, 1}, []int{none, 1, none, 1})
	builtAs(t, list("ab", "a", "abc"), list("a", "b", "c"), []int{none, 1, 0, 2}, []int{none, 1, none, none, none, none, 2, none, none, none, none, 3, none, none, none, none})
	builtAs(t, list("if", "[a-z]+"), list("abcdeghjklmnopqrstuvwxyz", "f", "i"), []int{none, 1, 1, 0}, []int{none, 1, 1, 2, none, 1, 1, 1, none, 1, 3, 1, none, 1, 1, 1})
	// Eight rules, of which each but the last two has a text that no rule ahead of it matches.
	eight := list("a", "a{2}", "a{0,3}", "b", "[ab]{2}", "a*", "a{4}", "b|aa")
	m := built(t, eight...)
	if m.Rules != 8 {
		t.Errorf("Rules %d, want 8", m.Rules)
	}
	for text, want := range map[string]int{"": 2, "a": 0, "aa": 1, "aaa": 2, "b": 3, "ab": 4, "bb": 4, "aaaa": 5, "aaaaaaa": 5, "aab": none, "bbb": none, "c": none} {
		if got := verdictOf(m, text); got != want {
			t.Errorf("the verdict of %q is %d, want %d", text, got, want)
		}
	}
	// A rule that no verdict is takes no state of its own, but is counted.
	if m := built(t, "[a-z]*", "if", "else"); m.Rules != 3 || len(m.Label) != 1 {
		t.Errorf("hidden rules: %v", m)
	}
}

// sameTexts are patterns that match the same texts, list by list.
func sameTexts() [][]string {
	return [][]string{
		list("a|b", "b|a", "[ab]", "[a-b]", "[ba]", "(a|b)", `\x61|b`, "a{1}|b", "a|b|a", "(a|(b))", "[ab]{1,1}", "(a|b){1}a{0}"),
		list("a*", "(a*)*", "(a+)?", "(|a)*", "a*a*", "(a|aa)*", "a?a*", "a{0,9}a*", "(a?)+", "a*{9}", "a**", "(aa)*a?", "|a+"),
		list("(a|b)*", "(a*b*)*", "(a*b)*a*", "a*(ba*)*", "(b|a)*", "[ab]*", "([ab]{2})*[ab]?", "([ab]{0,3})*"),
		list("a{2,3}", "aa|aaa", "aaa?", "a{2}a{0,1}", "aa(|a)", "a?aa", "(a|aa)a", "a{1}{2,3}"),
		list("(ab)*a", "a(ba)*", "(ab)*(ab)*a", "a|(ab)+a"),
		list("", "()", "x{0}", "(|)", "()*", "(){9}", "x{0,0}", "((()))", "(xyz){0}", "||"),
		list(".", `[^\n]`, `[\x00-\x09\x0b-\xff]`, `[^\x0a]`, "[^\n]", ".|a"),
		list("a[bc]d", "abd|acd", "a(b|c)d", "(ab|ac)d", "a(bd|cd)"),
		list("(a|b)*abb", "[ab]*abb", "(b|a+b(ab)*(a+b(ab)*)*a?)*abb|[ab]*abb", "(a|b)*(a|b)*abb", "([ab]*a)bb"),
	}
}

func TestP9SameTexts(t *testing.T) {
	for _, l := range sameTexts() {
		for _, others := range [][]string{list(), list("a?x"), list(".", "ab*")} {
			behind := built(t, append(list(l[0]), others...)...)
			ahead := built(t, append(others[:len(others):len(others)], l[0])...)
			for _, p := range l[1:] {
				if m := built(t, append(list(p), others...)...); !sameMachine(m, behind) {
					t.Errorf("%q ahead of %q has not the machine of %q: %v, %v", p, others, l[0], m, behind)
				}
				if m := built(t, append(others[:len(others):len(others)], p)...); !sameMachine(m, ahead) {
					t.Errorf("%q behind %q has not the machine of %q: %v, %v", p, others, l[0], m, ahead)
				}
			}
		}
	}
}
