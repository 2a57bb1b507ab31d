package munch

import (
	"slices"
	"strings"
	"testing"

	"munch/api"
)

type checkCase struct {
	patterns []string
	e        api.Errno
	rule, at int
}

func list(patterns ...string) []string { return patterns }

func ok(patterns ...string) checkCase { return checkCase{patterns, api.OK, 0, 0} }

func bad(p string, e api.Errno, at int) checkCase { return checkCase{list(p), e, 0, at} }

func runCases(t *testing.T, cases []checkCase) {
	t.Helper()
	for _, c := range cases {
		e, rule, at := Check(c.patterns)
		if e != c.e || rule != c.rule || at != c.at {
			t.Errorf("Check(%.80q) = %d, %d, %d, want %d, %d, %d", c.patterns, e, rule, at, c.e, c.rule, c.at)
		}
	}
}

func times(s string, n int) string { return strings.Repeat(s, n) }

func nested(n int, inside string) string { return times("(", n) + inside + times(")", n) }

func TestP3Examples(t *testing.T) {
	runCases(t, []checkCase{
		{list("a|b", "c)"), api.ErrForm, 1, 1},
		bad("(a", api.ErrForm, 2),
		ok("a**"),
		bad("*a", api.ErrForm, 0),
		bad("[]a]", api.ErrForm, 1),
		bad("a{12}", api.ErrForm, 3),
		bad(`\x4G`, api.ErrForm, 3),
		bad("[a-c-e]", api.ErrForm, 4),
		bad("[z-a]", api.ErrValue, 1),
		bad("ab{3,2}", api.ErrValue, 2),
		{list("a", `x[^\x00-\xff]`), api.ErrEmpty, 1, 1},
		bad(nested(7, "a"), api.ErrDeep, 6),
		ok(nested(6, "a")),
		bad("a{9}{9}{2}", api.ErrPlaces, 0),
		ok("a{8}{6}{2}"),
	})
}

func TestP3OrdinaryPatterns(t *testing.T) {
	for _, p := range []string{
		"", "a", "abc", "a|b", "a||b", "|", "(|a)", "()", "(())()",
		"a*b+c?", "a*+?{2}{0,3}", "(a|b)*abb", "()*", "(|)+", "a|(b|c)d",
		".", `\n\t`, `\x00\x7f\xff\x9a`, `\\\.\[\]\(\)\{\}\|\*\+\?\^\-`,
		"^-,$ 09n", "\n", "\x00\x80\xff", "\xc3\xa9",
		"[a]", "[abc]", "[^a]", "[a-z]", "[a-zA-Z0-9_]", "[a-a]", "[^a-z0]", `[\n\t\x00\\\]\[\^\-]`,
		`[\x00-\xff]`, `[\--\-]`, `[a-\x7a]`, "[.(){}|*+?,]", "[\x00-\xff]", "[\n]", "[(-)]",
		"a{0}", "a{9}", "a{0,0}", "a{0,9}", "a{3,3}", "(a|b){2,5}", "[ab]{2}", ".{1}", `\x41{2}`,
	} {
		runCases(t, []checkCase{ok(p)})
	}
}

func TestP3Rules(t *testing.T) {
	eight := list("a", "b", "c", "", "e", "f", "g", "a")
	runCases(t, []checkCase{
		{nil, api.ErrRules, 0, 0},
		{list(), api.ErrRules, 0, 0},
		ok(eight...),
		{append(slices.Clone(eight), "h"), api.ErrRules, 0, 0},
		{append(slices.Clone(eight), "("), api.ErrRules, 0, 0},
		{append(list("(", times("a", 41)), eight...), api.ErrRules, 0, 0},
		{make([]string, 100000), api.ErrRules, 0, 0},
		{append(slices.Clone(eight[:7]), "x]"), api.ErrForm, 7, 1},
	})
}

func TestP3Long(t *testing.T) {
	runCases(t, []checkCase{
		ok(times("a", api.MaxPattern)),
		bad(times("a", api.MaxPattern+1), api.ErrLong, 0),
		ok(times("\xff", api.MaxPattern)),
		bad(times("\xff", api.MaxPattern+1), api.ErrLong, 0),
		bad(times("é", 21), api.ErrLong, 0),
		bad(times("(", 1000000), api.ErrLong, 0),
		{list("a", times("*", 41)), api.ErrLong, 1, 0},
		bad(times("(", 40), api.ErrForm, 40),
	})
}

func TestP3FormOfPieces(t *testing.T) {
	runCases(t, []checkCase{
		bad("*", api.ErrForm, 0), bad("+a", api.ErrForm, 0), bad("?", api.ErrForm, 0), bad("{2}", api.ErrForm, 0), bad("{", api.ErrForm, 0), bad("{x", api.ErrForm, 0),
		bad("a|*", api.ErrForm, 2), bad("a|{2}", api.ErrForm, 2), bad("(+)", api.ErrForm, 1), bad("(a|?)", api.ErrForm, 3), bad("a({2})", api.ErrForm, 2),
		bad(")", api.ErrForm, 0), bad("a)", api.ErrForm, 1), bad("(a))(", api.ErrForm, 3), bad("()a)", api.ErrForm, 3),
		bad("(", api.ErrForm, 1), bad("((a)", api.ErrForm, 4), bad("a(b|", api.ErrForm, 4), bad("(a*", api.ErrForm, 3),
		bad("]", api.ErrForm, 0), bad("}", api.ErrForm, 0), bad("ab]", api.ErrForm, 2), bad("a{2}}", api.ErrForm, 4), bad("[a]]", api.ErrForm, 3),
	})
}

func TestP3FormOfCounts(t *testing.T) {
	runCases(t, []checkCase{
		bad("a{", api.ErrForm, 2), bad("a{}", api.ErrForm, 2), bad("a{,3}", api.ErrForm, 2), bad("a{x}", api.ErrForm, 2), bad("a{ 2}", api.ErrForm, 2),
		bad("a{/}", api.ErrForm, 2), bad("a{:}", api.ErrForm, 2),
		bad("a{2", api.ErrForm, 3), bad("a{10}", api.ErrForm, 3), bad("a{2;3}", api.ErrForm, 3), bad("a{2-3}", api.ErrForm, 3),
		bad("a{2,", api.ErrForm, 4), bad("a{2,}", api.ErrForm, 4), bad("a{2,a}", api.ErrForm, 4), bad("a{2,,3}", api.ErrForm, 4),
		bad("a{2,3", api.ErrForm, 5), bad("a{2,10}", api.ErrForm, 5), bad("a{2,3,4}", api.ErrForm, 5), bad("a{3,2", api.ErrForm, 5),
	})
}

func TestP3FormOfEscapes(t *testing.T) {
	runCases(t, []checkCase{
		bad(`\`, api.ErrForm, 1), bad(`a\`, api.ErrForm, 2), bad(`\a`, api.ErrForm, 1), bad(`\r`, api.ErrForm, 1), bad(`\X41`, api.ErrForm, 1), bad(`\0`, api.ErrForm, 1), bad("\\\xff", api.ErrForm, 1), bad(`\,`, api.ErrForm, 1),
		bad(`\x`, api.ErrForm, 2), bad(`\xg0`, api.ErrForm, 2), bad(`\xA0`, api.ErrForm, 2), bad("\\x`0", api.ErrForm, 2), bad(`\x:0`, api.ErrForm, 2), bad(`\x/0`, api.ErrForm, 2),
		bad(`\x0`, api.ErrForm, 3), bad(`\x0F`, api.ErrForm, 3), bad(`\xfg`, api.ErrForm, 3),
		bad(`[\`, api.ErrForm, 2), bad(`[\q]`, api.ErrForm, 2), bad(`[a-\x4`, api.ErrForm, 6), bad(`[a-\x4]`, api.ErrForm, 6), bad(`[a-\]`, api.ErrForm, 5),
	})
	marks := `\.[](){}|*+?^-`
	for b := 0; b < 256; b++ {
		c := bad("\\"+string([]byte{byte(b)}), api.ErrForm, 1)
		if strings.IndexByte(marks+"nt", byte(b)) >= 0 {
			c = ok(c.patterns[0])
		}
		if b == 'x' {
			c.at = 2
		}
		runCases(t, []checkCase{c})
	}
}

func TestP3FormOfSets(t *testing.T) {
	runCases(t, []checkCase{
		bad("[", api.ErrForm, 1), bad("[]", api.ErrForm, 1), bad("[^", api.ErrForm, 2), bad("[^]", api.ErrForm, 2), bad("[^]]", api.ErrForm, 2), bad("[^^a]", api.ErrForm, 2),
		bad("[a", api.ErrForm, 2), bad("[a^]", api.ErrForm, 2), bad("[a[]", api.ErrForm, 2), bad("[[]", api.ErrForm, 1),
		bad("[-]", api.ErrForm, 1), bad("[-a]", api.ErrForm, 1), bad("[^-a]", api.ErrForm, 2), bad("[a-", api.ErrForm, 3), bad("[a-]", api.ErrForm, 3), bad("[a--]", api.ErrForm, 3), bad("[a-^]", api.ErrForm, 3), bad("[a-[]", api.ErrForm, 3),
		bad("[a-b-c]", api.ErrForm, 4), bad("[a-b", api.ErrForm, 4), bad("x[a-b", api.ErrForm, 5),
	})
}

func TestP3AnyByte(t *testing.T) {
	for b := 0; b < 256; b++ {
		one := string([]byte{byte(b)})
		alone, inSet := ok(one), ok("["+one+"]")
		switch one {
		case "\\", "[", "(":
			alone = bad(one, api.ErrForm, 1)
		case "]", ")", "{", "}", "|", "*", "+", "?":
			alone = bad(one, api.ErrForm, 0)
		}
		if one == "|" {
			alone = ok(one)
		}
		switch one {
		case "\\":
			inSet = bad("[\\]", api.ErrForm, 3)
		case "[", "]", "-":
			inSet = bad("["+one+"]", api.ErrForm, 1)
		case "^":
			inSet = bad("[^]", api.ErrForm, 2)
		}
		runCases(t, []checkCase{alone, inSet})
	}
}

func TestP3Deep(t *testing.T) {
	runCases(t, []checkCase{
		ok(nested(api.MaxDeep, "")),
		bad(nested(api.MaxDeep+1, ""), api.ErrDeep, api.MaxDeep),
		bad("a|b"+nested(9, "x"), api.ErrDeep, 9),
		ok(times("()", 20)),
		ok("(" + nested(5, "a") + nested(5, "b") + ")"),
		bad("("+nested(5, "a")+nested(6, "b")+")", api.ErrDeep, 17),
		bad(nested(7, "")+nested(8, ""), api.ErrDeep, 6),
		ok("[(((((((]" + nested(6, `\(`)),
		ok(`\(\(\(\(\(\(\(`),
	})
}

func TestP3Values(t *testing.T) {
	runCases(t, []checkCase{
		ok("[a-a]"), bad("[b-a]", api.ErrValue, 1), bad("[^b-a]", api.ErrValue, 2), bad("x[c-dab-a]", api.ErrValue, 6), bad("[a-bd-cf-e]", api.ErrValue, 4),
		bad(`[\xff-\xfe]`, api.ErrValue, 1), bad(`[\n-\t]`, api.ErrValue, 1), ok(`[\t-\n]`), bad("[\xff-\x00]", api.ErrValue, 1), ok("[\x00-\xff]"), ok("[\x7f-\x80]"), bad("[\x80-\x7f]", api.ErrValue, 1), bad(`[\]-\[]`, api.ErrValue, 1),
		ok("a{0,0}"), bad("a{1,0}", api.ErrValue, 1), bad("a{9,8}", api.ErrValue, 1), bad("(){2,1}", api.ErrValue, 2), bad("a{1,2}{2,1}", api.ErrValue, 6), bad("a*{2,1}", api.ErrValue, 2), bad("(a|b{3,1})", api.ErrValue, 4),
		bad("[b-a]{2,1}", api.ErrValue, 1), bad("a{2,1}[b-a]", api.ErrValue, 1), bad("[ab]{2,1}[b-a]", api.ErrValue, 4),
		ok("[{2,1}]"), ok(`\{2,1\}`), ok("a{9}{1}"),
	})
}

func TestP3Empty(t *testing.T) {
	runCases(t, []checkCase{
		bad(`[^\x00-\xff]`, api.ErrEmpty, 0), ok(`[^\x00-\xfe]`), ok(`[^\x01-\xff]`), ok(`[^\x00-ac-\xff]`), bad(`[^\x00-ab-\xff]`, api.ErrEmpty, 0), bad(`[^b-\xff\x00-b]`, api.ErrEmpty, 0),
		bad("[^\x00-\xff]", api.ErrEmpty, 0), bad("[^\x00\x01-\xfe\xff]", api.ErrEmpty, 0),
		bad(`a(b|[^\x00-\xff]{0})`, api.ErrEmpty, 4), bad(`.[^a][^\x00-\xff][^\x00-\xff]`, api.ErrEmpty, 5), ok(`[\x00-\xff]`),
	})
}

func TestP3OrderOfErrors(t *testing.T) {
	none := `[^\x00-\xff]`
	runCases(t, []checkCase{
		// within a pattern
		bad(times("*", 41), api.ErrLong, 0),
		bad(nested(20, "")+"a", api.ErrLong, 0),
		bad(nested(7, "")+")", api.ErrForm, 14),
		bad("[b-a](", api.ErrForm, 6),
		bad("a{2,1}*[", api.ErrForm, 8),
		bad(none+")", api.ErrForm, 12),
		bad("[b-a]a{2,1}"+nested(7, ""), api.ErrDeep, 17),
		bad(none+nested(7, ""), api.ErrDeep, 18),
		bad(none+"[b-a]", api.ErrValue, 13),
		bad(none+"{2,1}", api.ErrValue, 12),
		bad(`[^\x00-\xffb-a]`, api.ErrValue, 11),
		bad(none+"a{9}{9}{9}", api.ErrEmpty, 0),
		// from pattern to pattern: the first one that is wrong, whatever the error
		{list("a", none, "[b-a]", nested(7, ""), "(", times("a", 41)), api.ErrEmpty, 1, 0},
		{list("[b-a]", nested(7, ""), "(", times("a", 41)), api.ErrValue, 0, 1},
		{list("", "", nested(7, ""), "(", times("a", 41)), api.ErrDeep, 2, 6},
		{list("(", times("a", 41)), api.ErrForm, 0, 1},
		{list("a{9}{9}", "b{9}{9}", "c{9}{9}", times("a", 41), "("), api.ErrLong, 3, 0},
		{list("a{9}{9}{9}", none), api.ErrEmpty, 1, 0},
	})
}

func TestP3Places(t *testing.T) {
	runCases(t, []checkCase{
		// at the bound and one above
		ok("a{8}{6}{2}"), bad("a{8}{6}{2}b", api.ErrPlaces, 0), bad("ba{8}{6}{2}", api.ErrPlaces, 0), bad("b|a{8}{6}{2}", api.ErrPlaces, 0),
		ok("a{9}{9}a{7}{2}a"), bad("a{9}{9}a{7}{2}aa", api.ErrPlaces, 0),
		ok(times("a", 40), times("b", 40), times("c", 16)),
		{list(times("a", 40), times("b", 40), times("c", 17)), api.ErrPlaces, 0, 0},
		ok("a{6}{2}", "a{6}{2}", "a{6}{2}", "a{6}{2}", "a{6}{2}", "a{6}{2}", "a{6}{2}", "a{6}{2}"),
		{list("a{6}{2}", "a{6}{2}", "a{6}{2}", "a{6}{2}", "a{6}{2}", "a{6}{2}", "a{6}{2}", "a{6}{2}b"), api.ErrPlaces, 0, 0},
		{list("a", "b", "c{9}{9}{9}"), api.ErrPlaces, 0, 0},
		{list("a{9}{9}{9}", "b", "c"), api.ErrPlaces, 0, 0},
		// what a place is, 24 times 4 of each
		ok(`(a\n.[^bc]){8}{3}`), bad(`(a\n.[^bc]){8}{3}a`, api.ErrPlaces, 0),
		ok(`(\x41\*[a-z\n\t]\\){8}{3}`), bad(`(\x41\*[a-z\n\t]\\){8}{3}.`, api.ErrPlaces, 0),
		ok("(a|b|(c|d)){8}{3}"), bad("(a|b|(c|d)){8}{3}[a]", api.ErrPlaces, 0),
		ok("(a*b+c?d*+?){8}{3}"), bad(`(a*b+c?d*+?){8}{3}\n`, api.ErrPlaces, 0),
		// `x{m,n}` has n times the places of x, whatever m is
		ok("a{0,8}{3,6}{2,2}"), bad("a{0,8}{3,6}{2,2}b", api.ErrPlaces, 0), bad("a{0,9}{0,9}{0,2}", api.ErrPlaces, 0),
		// a count is of its own piece alone
		ok("(a{9}{9}b{2}{7}c)"), bad("(a{9}{9}b{2}{7}c)c", api.ErrPlaces, 0), ok("a(b|c{9}){9}a{5}"), bad("a(b|c{9}){9}a{6}", api.ErrPlaces, 0), ok("ab{9}{9}(){9}"), ok("ab{9}{9}(|){9}"), ok("a{9}{9}|b{9}"),
	})
}

func TestP3PlacesOfManyCounts(t *testing.T) {
	nines := times("{9}", 12)
	runCases(t, []checkCase{
		// without a place no count makes one
		ok("()" + nines), ok("(|)" + nines), ok("a{0}" + nines), ok("a{0,0}" + nines[3:]), ok("(()()){9}{9}{9}"), ok("((){9}){9}|"),
		// and none that is taken nought times is left over
		ok("a" + times("{9}", 11) + "{0}"), ok("(a{9}{9}{9}{0}b){9}"), ok("(a{9}{9}{9}|b{9}{9}{9}){0}" + "c"), ok("(a{9}{9}{9}{9}){0,0}b{8}{6}{2}"), bad("(a{9}{9}{9}{9}){0,0}b{8}{6}{2}c", api.ErrPlaces, 0),
		// far above the bound, and above what 32 bits hold
		bad("a"+nines+"{9}", api.ErrPlaces, 0), bad("(a{9}{9}{9}b{9}{9}{9}){9}{9}{9}{9}", api.ErrPlaces, 0), bad("a{8}{8}{8}{8}{8}{8}{8}{8}{8}{8}{8}{8}{8}", api.ErrPlaces, 0), bad("a{4}{8}{8}{8}{8}{8}{8}{8}{8}{8}{8}{8}", api.ErrPlaces, 0),
		{list("a"+nines+"{9}", "b"+nines+"{9}", "c"+nines, "d"+nines, "e"+nines, "f"+nines, "g"+nines, "h"+nines), api.ErrPlaces, 0, 0},
	})
}

func TestP1EndsAtAnyBytes(t *testing.T) {
	// Each of these would let a reader run beyond a pattern's end.
	for _, tail := range []string{"\\", "\\x", "\\xf", "[", "[^", "[a", "[a-", "[\\", "[\\x", "[\\xf", "{", "a{", "a{1", "a{1,", "a{1,1", "(", "(|"} {
		for n := 0; n <= 45; n++ {
			Check(list(times("a", n) + tail))
		}
	}
	for a := 0; a < 256; a++ {
		for b := 0; b < 256; b++ {
			Check(list(string([]byte{byte(a), byte(b)}), string([]byte{'[', byte(a), '-', byte(b), ']'})))
		}
	}
}

func TestP2NothingIsWrittenInto(t *testing.T) {
	for _, patterns := range [][]string{list("a", "(b|c)*", "[^x]{2}"), list("a", "("), list("a{9}{9}{9}"), list("[b-a]"), list(), list("1", "2", "3", "4", "5", "6", "7", "8", "9")} {
		room := append(slices.Clone(patterns), "spare", "room")
		Check(room[:len(patterns)])
		if want := append(slices.Clone(patterns), "spare", "room"); !slices.Equal(room, want) {
			t.Errorf("Check(%q) left %q, want %q", patterns, room, want)
		}
	}
}

func TestP2AnswersHangOnArgumentsAlone(t *testing.T) {
	cases := []checkCase{ok("a"), bad("a{9}{9}{9}", api.ErrPlaces, 0), {list("a", "((((((("), api.ErrForm, 1, 7}, ok("a{8}{6}{2}"), bad("[b-a]", api.ErrValue, 1), {nil, api.ErrRules, 0, 0}, bad(nested(7, ""), api.ErrDeep, 6), ok("[^a]", "[^b]"), bad(`[^\x00-\xff]`, api.ErrEmpty, 0), bad(times("a", 41), api.ErrLong, 0)}
	for i := range cases {
		for j := range cases {
			runCases(t, []checkCase{cases[i], cases[j], cases[i]})
		}
	}
	// A list that is written into after one call is read anew by the next.
	patterns := list("a")
	runCases(t, []checkCase{{patterns, api.OK, 0, 0}})
	patterns[0] = "("
	runCases(t, []checkCase{{patterns, api.ErrForm, 0, 1}})
}
