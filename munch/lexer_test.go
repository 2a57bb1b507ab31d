package munch

import (
	"math"
	"math/rand"
	"slices"
	"testing"

	"munch/api"
)

func lexerOf(t *testing.T, tables api.Tables) *Lexer {
	t.Helper()
	return loaded(t, fileOf(t, tables))
}

func TestP7Tables(t *testing.T) {
	for _, want := range samples() {
		if got := lexerOf(t, want).Tables(); !sameTables(got, want) {
			t.Errorf("Tables() = %.300v, want %.300v", got, want)
		}
	}
	for what, turn := range stillSound() {
		want := tablesOfABB()
		turn(&want)
		if got := lexerOf(t, want).Tables(); !sameTables(got, want) {
			t.Errorf("%s: Tables() = %v, want %v", what, got, want)
		}
	}
}

// strange are numbers that are no state of the samples and no byte, but near to some if they are cut short.
var strange = []int{-1, -2, -97, -128, -255, -256, 256, 257, 256 + 97, 1 << 16, 1<<16 + 97, 1 << 32, 1<<32 + 97, 1 << 62, -1 << 62, math.MinInt, math.MinInt + 97, math.MaxInt}

func TestP7Label(t *testing.T) {
	for _, tables := range samples() {
		x := lexerOf(t, tables)
		for s, want := range tables.Label {
			if got := x.Label(s); got != want {
				t.Errorf("Label(%d) = %d, want %d", s, got, want)
			}
		}
		for _, s := range append([]int{len(tables.Label), len(tables.Label) + 1, 97, 255}, strange...) {
			if got := x.Label(s); got != none {
				t.Errorf("Label(%d) = %d of %d states, want None", s, got, len(tables.Label))
			}
		}
	}
}

// steps tells whether each state and each byte leads where the words say.
func steps(t *testing.T, tables api.Tables) {
	t.Helper()
	x := lexerOf(t, tables)
	for s := range tables.Label {
		for b := range 256 {
			if got, want := x.Step(s, b), leadByWords(tables, s, tables.Class[b]); got != want {
				t.Fatalf("Step(%d, %d) = %d, want %d, by %.300v", s, b, got, want, tables)
			}
		}
	}
}

func TestP7Step(t *testing.T) {
	x := lexerOf(t, tablesOfABB())
	for s, want := range [][]int{{1, 0}, {1, 2}, {1, 3}, {1, 0}} {
		if a, b, c := x.Step(s, 'a'), x.Step(s, 'b'), x.Step(s, 'c'); a != want[0] || b != want[1] || c != none {
			t.Errorf("from state %d a, b and c lead to %d, %d and %d, want %v and None", s, a, b, c, want)
		}
	}
	x = lexerOf(t, tablesOfA())
	if x.Step(0, 'a') != 1 || x.Step(1, 'a') != none || x.Step(0, 0) != none || x.Step(0, 255) != none {
		t.Error("steps of example 5")
	}
	for _, tables := range samples() {
		steps(t, tables)
	}
	r := rand.New(rand.NewSource(9))
	for range 300 {
		steps(t, randomTables(r))
	}
}

func TestP7StepByCells(t *testing.T) {
	// From each of three states the classes 0 to 3.
	x := lexerOf(t, api.Tables{Rules: 1, Class: classesOf("abc"), Label: []int{none, none, none}, Base: []int{0, 4, 3}, Def: []int{none, 0, 1}, Check: []int{0, 0, 0, 2, 1, 1}, Next: []int{2, none, 1, 1, none, 0}})
	for _, c := range []struct {
		what        string
		s, b, wants int
	}{
		{"by a cell", 0, 'x', 2}, {"by a cell of None", 0, 'a', none}, {"by the next cell", 0, 'b', 1}, {"a cell of another state, and no Def", 0, 'c', none},
		{"a cell of None goes ahead of Def", 1, 'x', none}, {"a cell goes ahead of Def", 1, 'a', 0}, {"behind the last cell, by Def", 1, 'b', 1}, {"behind the last cell, by Def to None", 1, 'c', none},
		{"by the first cell", 2, 'x', 1}, {"a cell of the very state that Def names, but of another class: by Def", 2, 'a', 0}, {"by two Defs", 2, 'b', 1}, {"by two Defs to None", 2, 'c', none},
	} {
		if got := x.Step(c.s, c.b); got != c.wants {
			t.Errorf("%s: Step(%d, %c) = %d, want %d", c.what, c.s, c.b, got, c.wants)
		}
	}
}

func TestP7LongestWayBack(t *testing.T) {
	tables := chainTables(api.MaxStates)
	tables.Check, tables.Next = []int{0}, []int{api.MaxStates - 1}
	x := lexerOf(t, tables)
	for s := range api.MaxStates {
		if got := x.Step(s, 'a'); got != 95 {
			t.Errorf("Step(%d, 'a') = %d", s, got)
		}
	}
}

func TestP7NoStateAndNoByte(t *testing.T) {
	for _, tables := range samples() {
		x := lexerOf(t, tables)
		for _, n := range append([]int{len(tables.Label), 97, 255}, strange...) {
			for b := range 256 {
				if got := x.Step(n, b); got != none {
					t.Fatalf("Step(%d, %d) = %d of %d states", n, b, got, len(tables.Label))
				}
			}
		}
		for _, b := range strange {
			for s := range tables.Label {
				if got := x.Step(s, b); got != none {
					t.Fatalf("Step(%d, %d) = %d", s, b, got)
				}
			}
			for _, s := range strange {
				if got := x.Step(s, b); got != none {
					t.Fatalf("Step(%d, %d) = %d", s, b, got)
				}
			}
		}
	}
}

func token(rule int, at int, length int) api.Token {
	return api.Token{Rule: rule, At: at, Len: length}
}

func cut(t *testing.T, x *Lexer, text string, want ...api.Token) {
	t.Helper()
	got, e := x.Scan(text)
	if e != api.OK || !slices.Equal(got, want) {
		t.Errorf("Scan(%.60q) = %v, %d, want %v", text, got, e, want)
	}
}

// lexerOfWords: example 9, of `if`, `[a-z]+` and a space.
func lexerOfWords(t *testing.T) *Lexer {
	class := make([]int, 256)
	for b := 'a'; b <= 'z'; b++ {
		class[b] = 2
	}
	class[' '], class['f'], class['i'] = 1, 3, 4
	return lexerOf(t, unpacked(3, class, []int{none, 2, 1, 1, 0}, []int{
		none, 1, 2, 2, 3,
		none, none, none, none, none,
		none, none, 2, 2, 2,
		none, none, 2, 4, 2,
		none, none, 2, 2, 2,
	}))
}

// lexerOfSteps: example 10, of `a` and `abc`.
func lexerOfSteps(t *testing.T) *Lexer {
	return lexerOf(t, unpacked(2, classesOf("abc"), []int{none, 0, none, 1}, []int{
		none, 1, none, none,
		none, none, 2, none,
		none, none, none, 3,
		none, none, none, none,
	}))
}

// lexerOfMany: example 11, of `a*`.
func lexerOfMany(t *testing.T) *Lexer {
	return lexerOf(t, unpacked(1, classesOf("a"), []int{0}, []int{none, 0}))
}

func TestP8Examples(t *testing.T) {
	cut(t, lexerOfWords(t), "if iff", token(0, 0, 2), token(2, 2, 1), token(1, 3, 3))
	cut(t, lexerOfSteps(t), "ababc", token(0, 0, 1), token(none, 1, 1), token(1, 2, 3))
	cut(t, lexerOfMany(t), "baa", token(none, 0, 1), token(0, 1, 2))
	for _, x := range []*Lexer{lexerOfWords(t), lexerOfSteps(t), lexerOfMany(t), lexerOf(t, tablesOfNothing())} {
		cut(t, x, "")
	}
	cut(t, lexerOf(t, tablesOfNothing()), "a\x00\xff", token(none, 0, 1), token(none, 1, 1), token(none, 2, 1))
}

func TestP8Tokens(t *testing.T) {
	x := lexerOf(t, tablesOfABB())
	cut(t, x, "abb", token(0, 0, 3))
	cut(t, x, "aabbabb", token(0, 0, 7))
	cut(t, x, "abbabab", token(0, 0, 3), token(none, 3, 1), token(none, 4, 1), token(none, 5, 1), token(none, 6, 1))
	cut(t, x, "ab", token(none, 0, 1), token(none, 1, 1))
	cut(t, x, "abcabb", token(none, 0, 1), token(none, 1, 1), token(none, 2, 1), token(0, 3, 3))
	cut(t, x, "abb\xffabb\x00", token(0, 0, 3), token(none, 3, 1), token(0, 4, 3), token(none, 7, 1))
	x = lexerOfSteps(t)
	cut(t, x, "abcabca", token(1, 0, 3), token(1, 3, 3), token(0, 6, 1))
	cut(t, x, "ab", token(0, 0, 1), token(none, 1, 1))
	cut(t, x, "aab", token(0, 0, 1), token(0, 1, 1), token(none, 2, 1))
	cut(t, lexerOfWords(t), "i ifif  xif", token(1, 0, 1), token(2, 1, 1), token(1, 2, 4), token(2, 6, 1), token(2, 7, 1), token(1, 8, 3))
	// The Label of state 0 counts behind a byte alone; a state may lead back to it.
	x = lexerOf(t, unpacked(2, classesOf("a"), []int{1, none}, []int{none, 1, none, 0}))
	cut(t, x, "a", token(none, 0, 1))
	cut(t, x, "aaa", token(1, 0, 2), token(none, 2, 1))
	cut(t, x, "baab", token(none, 0, 1), token(1, 1, 2), token(none, 3, 1))
	// The last state with a Label counts, not the least rule and not the first.
	x = lexerOf(t, unpacked(3, classesOf("a"), []int{none, 1, 0, 2}, []int{none, 1, none, 2, none, 3, none, none}))
	cut(t, x, "a", token(1, 0, 1))
	cut(t, x, "aa", token(0, 0, 2))
	cut(t, x, "aaaa", token(2, 0, 3), token(1, 3, 1))
}

func TestP8LengthOfATextAtItsBound(t *testing.T) {
	words := lexerOfWords(t)
	for _, n := range []int{1, 1999, 2000} {
		cut(t, words, times("x", n), token(1, 0, n))
		var want []api.Token
		for i := range n {
			want = append(want, token(2, i, 1))
		}
		cut(t, words, times(" ", n), want...)
	}
	for _, text := range []string{times("x", 2001), times("\x00", 2001), times(" ", 4000), times("if ", 100000)} {
		if l, e := words.Scan(text); len(l) != 0 || e != api.ErrLong {
			t.Errorf("a text of %d bytes: %d tokens, %d", len(text), len(l), e)
		}
	}
	// No token, at each place all the way to the end, by the longest way back.
	tables := chainTables(api.MaxStates)
	for s := range tables.Label {
		tables.Label[s] = none
	}
	tables.Check, tables.Next = []int{0}, []int{api.MaxStates - 1}
	l, e := lexerOf(t, tables).Scan(times("a", 2000))
	if len(l) != 2000 || e != api.OK {
		t.Fatalf("2000 bytes of no rule: %d tokens, %d", len(l), e)
	}
	for i := range l {
		if l[i] != token(none, i, 1) {
			t.Fatalf("token %d is %v", i, l[i])
		}
	}
}

func TestP8EachByte(t *testing.T) {
	all := make([]int, 256)
	for b := range all {
		all[b] = b
	}
	text := bytesOf(all...)
	for b := 1; b < 256; b++ {
		class := make([]int, 256)
		var want []api.Token
		for i := range b {
			want = append(want, token(none, i, 1))
		}
		for i := b; i < 256; i++ {
			class[i] = 1
		}
		want = append(want, token(0, b, 256-b))
		cut(t, lexerOf(t, unpacked(1, class, []int{0}, []int{none, 0})), text, want...)
	}
}

// cutByWords follows P8: at each place first all states, then of those with a rule the last.
func cutByWords(t api.Tables, text string) []api.Token {
	var tokens []api.Token
	for at := 0; at < len(text); at += tokens[len(tokens)-1].Len {
		var states []int
		state := 0
		for _, b := range []byte(text[at:]) {
			if state = leadByWords(t, state, t.Class[b]); state == none {
				break
			}
			states = append(states, state)
		}
		found := token(none, at, 1)
		for n := len(states); n > 0; n-- {
			if rule := t.Label[states[n-1]]; rule != none {
				found = token(rule, at, n)
				break
			}
		}
		tokens = append(tokens, found)
	}
	return tokens
}

func TestP8RandomTexts(t *testing.T) {
	r := rand.New(rand.NewSource(10))
	long, none := 0, 0
	for range 2000 {
		tables := randomTables(r)
		x := lexerOf(t, tables)
		for range 10 {
			text := make([]byte, r.Intn(60))
			for i := range text {
				text[i] = byte(85 + r.Intn(16))
				if r.Intn(30) == 0 {
					text[i] = byte(r.Intn(256))
				}
			}
			want := cutByWords(tables, string(text))
			cut(t, x, string(text), want...)
			for _, k := range want {
				if k.Len > 1 {
					long++
				}
				if k.Rule == api.None {
					none++
				}
			}
		}
	}
	if long < 10000 || none < 10000 {
		t.Errorf("%d tokens of more than a byte, %d of no rule", long, none)
	}
}
