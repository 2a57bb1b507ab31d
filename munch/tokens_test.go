package munch

import (
	"fmt"
	"math/rand"
	"slices"
	"strings"
	"testing"

	"munch/api"
)

func treesOf(patterns []string) []*tree {
	var trees []*tree
	for _, p := range patterns {
		trees = append(trees, treeOf(p))
	}
	return trees
}

// cutByPatterns follows P12: at each place the longest text that a pattern matches, with the first rule. The text has at most 60 bytes.
func cutByPatterns(trees []*tree, text string) []api.Token {
	var tokens []api.Token
	for at := 0; at < len(text); {
		found := token(none, at, 1)
		for n := len(text) - at; n > 0; n-- {
			if rule := verdictByWords(trees, text[at:at+n]); rule != none {
				found = token(rule, at, n)
				break
			}
		}
		tokens = append(tokens, found)
		at += found.Len
	}
	return tokens
}

// cutsAs wants tokens, by the file of patterns, and by what the patterns match.
func cutsAs(t *testing.T, patterns []string, text string, want ...api.Token) {
	t.Helper()
	cut(t, loaded(t, generated(t, patterns...)), text, want...)
	if got := cutByPatterns(treesOf(patterns), text); !slices.Equal(got, want) {
		t.Errorf("%q cut by what %q match: %v, want %v", text, patterns, got, want)
	}
}

func TestP12Examples(t *testing.T) {
	cutsAs(t, list("if", "[a-z]+", " "), "if iff", token(0, 0, 2), token(2, 2, 1), token(1, 3, 3))
	cutsAs(t, list("a", "abc"), "ababc", token(0, 0, 1), token(none, 1, 1), token(1, 2, 3))
	cutsAs(t, list("a*"), "baa", token(none, 0, 1), token(0, 1, 2))
	cutsAs(t, list("a*"), "")
	cutsAs(t, list(""), "a\x00a", token(none, 0, 1), token(none, 1, 1), token(none, 2, 1))
	file := generated(t, "a")
	notLoaded(t, "example 12, the sum", put(file, 107, 0), api.ErrSum)
	notLoaded(t, "example 12, the tables", resealed(put(file, 107, 0)), api.ErrTable)
}

func TestP12Tokens(t *testing.T) {
	cutsAs(t, list("[a-z]+", "if"), "if", token(0, 0, 2))
	cutsAs(t, list("a", "a"), "aa", token(0, 0, 1), token(0, 1, 1))
	cutsAs(t, list("ab", "a", "b"), "abba", token(0, 0, 2), token(2, 2, 1), token(1, 3, 1))
	cutsAs(t, list("a", "b", "ab"), "abba", token(2, 0, 2), token(1, 2, 1), token(0, 3, 1))
	cutsAs(t, list(".+", `\n`), "aab\nb", token(0, 0, 3), token(1, 3, 1), token(0, 4, 1))
	cutsAs(t, list(`\x00`, `[^\x00]`), "a\x00\xff", token(1, 0, 1), token(0, 1, 1), token(1, 2, 1))
	cutsAs(t, list("a{2,3}"), "aaaaa", token(0, 0, 3), token(0, 3, 2))
	cutsAs(t, list("a{2,3}"), "aaaa", token(0, 0, 3), token(none, 3, 1))
	cutsAs(t, list("[()]", `\*`, `\[\]`), "(*)[]", token(0, 0, 1), token(1, 1, 1), token(0, 2, 1), token(2, 3, 2))
	// Far ahead and back again: what is behind the longest token is read once more.
	cutsAs(t, list("a", "a{9}b"), "aaaaaaaaa", token(0, 0, 1), token(0, 1, 1), token(0, 2, 1), token(0, 3, 1), token(0, 4, 1), token(0, 5, 1), token(0, 6, 1), token(0, 7, 1), token(0, 8, 1))
	cutsAs(t, list("a", "a{4}b"), "aaaaab", token(0, 0, 1), token(1, 1, 5))
	// The longest counts, though a rule ahead matches less; a pattern of the empty text is no token.
	cutsAs(t, list("", "a?", "ab*", "(ab)+"), "ababb", token(3, 0, 4), token(none, 4, 1))
	cutsAs(t, list("b?", "a*"), "cab", token(none, 0, 1), token(1, 1, 1), token(0, 2, 1))
	cutsAs(t, list(`[0-9]+`, `[0-9]+\.[0-9]+`, `\.\.`), "1..22.5.", token(0, 0, 1), token(2, 1, 2), token(1, 3, 4), token(none, 7, 1))
	cutsAs(t, list("/\\*([^*]|\\*+[^*/])*\\*+/", "."), "/***/*/", token(0, 0, 5), token(1, 5, 1), token(1, 6, 1))
}

func TestP12LongTexts(t *testing.T) {
	x := loaded(t, generated(t, "[a-z]+", "[0-9]", `\x00*`))
	cut(t, x, times("q", 2000), token(0, 0, 2000))
	cut(t, x, times("\x00", 1999)+"A", token(2, 0, 1999), token(none, 1999, 1))
	if tokens, e := x.Scan(times("q", 2001)); len(tokens) != 0 || e != api.ErrLong {
		t.Errorf("2001 bytes: %d tokens, %d", len(tokens), e)
	}
	words := times("ab7", 600)
	var want []api.Token
	for i := 0; i < 1800; i += 3 {
		want = append(want, token(0, i, 2), token(1, i+2, 1))
	}
	cut(t, x, words, want...)
}

// busyText goes from state to state as far as it can, and then begins anew; here and there any byte stands in it.
func busyText(r *rand.Rand, m api.Machine) string {
	classes := slices.Max(m.Class) + 1
	var text []int
	for state := 0; len(text) < 40 && r.Intn(60) > 0; {
		var on []int
		for b := range 256 {
			if m.Next[state*classes+m.Class[b]] != none {
				on = append(on, b)
			}
		}
		switch {
		case len(on) == 0 && state == 0 || r.Intn(20) == 0:
			text = append(text, r.Intn(256))
			state = 0
		case len(on) == 0 || r.Intn(20) == 0:
			state = 0
		default:
			text = append(text, on[r.Intn(len(on))])
			state = m.Next[state*classes+m.Class[text[len(text)-1]]]
		}
	}
	return bytesOf(text...)
}

func TestP12RandomTexts(t *testing.T) {
	r := rand.New(rand.NewSource(121))
	var long, short, nothing, back int
	for range 1200 {
		patterns := randomList(r)
		m, e := Build(patterns)
		if e != api.OK {
			continue
		}
		x, trees := loaded(t, generated(t, patterns...)), treesOf(patterns)
		for range 8 {
			text := busyText(r, m)
			want := cutByPatterns(trees, text)
			got, e := x.Scan(text)
			if e != api.OK || !slices.Equal(got, want) {
				t.Fatalf("by %q the text %q is cut into %v, %d, want %v", patterns, text, got, e, want)
			}
			for _, k := range want {
				switch {
				case k.Rule == none:
					nothing++
				case k.Len > 1:
					long++
				default:
					short++
				}
				if end := k.At + k.Len; end < len(text) && walk(m, text[k.At:end+1]) != none {
					back++
				}
			}
		}
	}
	if long < 5000 || short < 5000 || nothing < 5000 || back < 1000 {
		t.Errorf("%d tokens of more than a byte, %d of one, %d of no rule; %d after which the text still led on", long, short, nothing, back)
	}
}

// TestP12Words: patterns that are words, against the words themselves.
func TestP12Words(t *testing.T) {
	r := rand.New(rand.NewSource(122))
	word := func(n int) string {
		w := ""
		for range n {
			w += list("a", "b", "\xff")[r.Intn(3)]
		}
		return w
	}
	for range 500 {
		var words []string
		for range 1 + r.Intn(8) {
			words = append(words, word(1+r.Intn(6)))
		}
		text := word(r.Intn(60))
		var want []api.Token
		for at := 0; at < len(text); at += want[len(want)-1].Len {
			found := token(none, at, 1)
			for rule, w := range words {
				if strings.HasPrefix(text[at:], w) && (found.Rule == none || len(w) > found.Len) {
					found = token(rule, at, len(w))
				}
			}
			want = append(want, found)
		}
		cut(t, loaded(t, generated(t, words...)), text, want...)
	}
}

func TestP12SameTexts(t *testing.T) {
	files := map[string]string{}
	for _, l := range sameTexts() {
		for _, others := range [][]string{list(), list("a?x"), list(".", "ab*")} {
			first := append(others[:len(others):len(others)], l[0])
			want := generated(t, first...)
			for _, p := range l[1:] {
				if file := generated(t, append(others[:len(others):len(others)], p)...); file != want {
					t.Errorf("%q and %q behind %q have two files", p, l[0], others)
				}
			}
			if len(others) == 0 {
				if other, ok := files[want]; ok {
					t.Errorf("%q and %q have one file", other, l[0])
				}
				files[want] = l[0]
			}
		}
	}
}

// bytesSpelled writes the bytes of a place as a set in one of several ways.
func bytesSpelled(r *rand.Rand, has *[256]bool) string {
	spell := func(b int) string {
		if r.Intn(2) == 0 && (b >= 'a' && b <= 'z' || b >= '0' && b <= '9') {
			return string(rune(b))
		}
		return fmt.Sprintf(`\x%02x`, b)
	}
	items := func(want bool) []string {
		var all []string
		for b := 0; b < 256; b++ {
			if has[b] != want {
				continue
			}
			low := b
			for b < 255 && has[b+1] == want && r.Intn(20) > 0 {
				b++
			}
			if low == b {
				all = append(all, spell(b))
			} else {
				all = append(all, spell(low)+"-"+spell(b))
			}
		}
		r.Shuffle(len(all), func(i int, k int) { all[i], all[k] = all[k], all[i] })
		return all
	}
	in, out := items(true), items(false)
	if len(in) == 1 && len(in[0]) < 5 && !strings.Contains(in[0], "-") && r.Intn(2) == 0 {
		return in[0]
	}
	if len(out) > 0 && (r.Intn(3) == 0 || len(out) < len(in)) {
		return "[^" + strings.Join(out, "") + "]"
	}
	return "[" + strings.Join(in, "") + "]"
}

// respelled writes another pattern that matches what x matches, as one atom.
func respelled(r *rand.Rand, x *tree) string {
	kid := func() string { return respelled(r, x.kids[0]) }
	ways := []string{}
	switch x.kind {
	case 'p':
		return bytesSpelled(r, &x.has)
	case 'r', '|':
		var parts []string
		for _, k := range x.kids {
			parts = append(parts, respelled(r, k))
		}
		if len(parts) == 1 {
			return parts[0]
		}
		if x.kind == 'r' {
			return "(" + strings.Join(parts, list("", "", "()")[r.Intn(3)]) + ")"
		}
		r.Shuffle(len(parts), func(i int, k int) { parts[i], parts[k] = parts[k], parts[i] })
		if r.Intn(4) == 0 {
			parts = append(parts, respelled(r, x.kids[0]))
		}
		return "(" + strings.Join(parts, "|") + ")"
	case '*':
		ways = list("("+kid()+"*)", "("+kid()+"+?)", "("+kid()+"?*)", "(|"+kid()+")+", "("+kid()+"*"+kid()+"?)")
	case '+':
		ways = list("("+kid()+"+)", "("+kid()+kid()+"*)", "("+kid()+"*"+kid()+")")
	case '?':
		ways = list("("+kid()+"?)", "(|"+kid()+")", "("+kid()+"|)", "("+kid()+"{0,1})")
	case '{':
		out := ""
		for n := range x.most {
			out += kid()
			if n >= x.least {
				out += "?"
			}
		}
		ways = list(fmt.Sprintf("(%s{%d,%d})", kid(), x.least, x.most), "("+out+")", fmt.Sprintf("(%s{%d}%s?{%d})", kid(), x.least, kid(), x.most-x.least))
	}
	way := ways[r.Intn(len(ways))]
	if strings.HasSuffix(way, "+") {
		way = "(" + way + ")"
	}
	return way
}

// TestP12RespelledLists: patterns, and others that match the same, written by rules that change no text.
func TestP12RespelledLists(t *testing.T) {
	r := rand.New(rand.NewSource(123))
	same := 0
	for range 6000 {
		var patterns, others []string
		for range 1 + r.Intn(3) {
			patterns = append(patterns, scribble(r, 1+r.Intn(4)))
			if e, _, _ := Check(patterns); e != api.OK {
				break
			}
			others = append(others, respelled(r, treeOf(patterns[len(patterns)-1])))
		}
		file, e := Generate(patterns)
		other, otherError := Generate(others)
		if e != api.OK || otherError != api.OK {
			if otherError == api.ErrForm || otherError == api.ErrValue || otherError == api.ErrEmpty {
				t.Fatalf("%q is no list of patterns: %d", others, otherError)
			}
			continue
		}
		if !slices.Equal(patterns, others) {
			same++
		}
		if file != other {
			t.Fatalf("%q and %q have two files:\n%x\n%x", patterns, others, file, other)
		}
	}
	if same < 2000 {
		t.Errorf("%d lists were compared", same)
	}
}

// generatedFiles are files that Generate answers.
func generatedFiles(t *testing.T) []string {
	t.Helper()
	return []string{generated(t, "a"), generated(t, ""), generated(t, "(a|b)*abb"), generated(t, "if", "[a-z]+", " "), generated(t, "a{9}{9}a{7}{2}")}
}

// TestP12Bits turns bits over that lie within 32 consecutive ones.
func TestP12Bits(t *testing.T) {
	r := rand.New(rand.NewSource(124))
	files := append(generatedFiles(t), generated(t, "([^a][^b][^c][^d][^e][^f][^g]){9}"))
	for i, file := range files {
		loaded(t, file)
		for at := 0; at < 8*len(file); at += 1 + i/5 {
			for _, mask := range []uint32{1, 3, 5, 1 << 31, 1<<31 | 1, 0xff, 0xffff, 0xffffffff, 0x04c11db7, 1 | r.Uint32(), 1 | r.Uint32(), 1 | r.Uint32()&r.Uint32()} {
				turned := []byte(file)
				for k := range 32 {
					if bit := at + k; bit < 8*len(file) && mask>>k&1 == 1 {
						turned[bit/8] ^= 128 >> (bit % 8)
					}
				}
				if x, e := Load(string(turned)); x != nil || e == api.OK {
					if string(turned) == file {
						continue
					}
					t.Fatalf("a file is taken with the bits %08x turned over from the bit %d on", mask, at)
				}
			}
		}
	}
}

// TestP12EachPairOfBits turns each two bits over that lie within 32 consecutive ones.
func TestP12EachPairOfBits(t *testing.T) {
	file := generated(t, "a")
	for at := range 8 * len(file) {
		for other := at + 1; other < min(at+32, 8*len(file)); other++ {
			turned := []byte(file)
			turned[at/8] ^= 128 >> (at % 8)
			turned[other/8] ^= 128 >> (other % 8)
			if x, e := Load(string(turned)); x != nil || e == api.OK {
				t.Fatalf("a file is taken with the bits %d and %d turned over", at, other)
			}
		}
	}
}

func TestP12CutAndMore(t *testing.T) {
	for _, file := range generatedFiles(t) {
		for n := range len(file) {
			want := api.ErrSize
			if n < 4 {
				want = api.ErrMagic
			}
			notLoaded(t, "cut", file[:n], want)
		}
		for _, more := range []string{"\x00", "\xff", "M", "\x00\x00\x00\x00", file[len(file)-4:], file, times("\x00", 5000), " \n"} {
			notLoaded(t, "with something behind it", file+more, api.ErrSize)
		}
		for b := range 256 {
			notLoaded(t, "with a byte behind it", file+bytesOf(b), api.ErrSize)
		}
	}
}
