package munch

import (
	"math/bits"
	"math/rand"
	"strings"
	"testing"

	"munch/api"
)

// grammar recognizes patterns slowly, rule for rule as the document writes the form down: each method answers, as bits, the places at which what begins at a place may end.
type grammar struct {
	text string
	seen map[int]uint64
}

func (g *grammar) lit(at int, bytes string) uint64 {
	if at < len(g.text) && strings.IndexByte(bytes, g.text[at]) >= 0 {
		return 1 << (at + 1)
	}
	return 0
}

func (g *grammar) but(at int, bytes string) uint64 {
	if at < len(g.text) && strings.IndexByte(bytes, g.text[at]) < 0 {
		return 1 << (at + 1)
	}
	return 0
}

func each(from uint64, next func(int) uint64) uint64 {
	var to uint64
	for ; from != 0; from &= from - 1 {
		to |= next(bits.TrailingZeros64(from))
	}
	return to
}

func many(from uint64, next func(int) uint64) uint64 {
	all := from
	for from != 0 {
		from = each(from, next) &^ all
		all |= from
	}
	return all
}

func (g *grammar) word(at int, parts ...string) uint64 {
	ends := uint64(1) << at
	for _, p := range parts {
		ends = each(ends, func(i int) uint64 { return g.lit(i, p) })
	}
	return ends
}

func (g *grammar) pattern(at int) uint64 {
	if ends, ok := g.seen[at]; ok {
		return ends
	}
	ends := many(g.row(at), func(i int) uint64 { return each(g.lit(i, "|"), g.row) })
	g.seen[at] = ends
	return ends
}

func (g *grammar) row(at int) uint64 { return many(1<<at, g.piece) }

func (g *grammar) piece(at int) uint64 { return many(g.atom(at), g.suffix) }

func (g *grammar) suffix(at int) uint64 {
	digit := "0123456789"
	return g.lit(at, "*") | g.lit(at, "+") | g.lit(at, "?") | g.word(at, "{", digit, "}") | g.word(at, "{", digit, ",", digit, "}")
}

func (g *grammar) atom(at int) uint64 {
	group := each(each(g.lit(at, "("), g.pattern), func(i int) uint64 { return g.lit(i, ")") })
	return g.but(at, `\.[](){}|*+?`) | g.escape(at) | g.lit(at, ".") | g.set(at) | group
}

func (g *grammar) set(at int) uint64 {
	open := g.lit(at, "[")
	open |= each(open, func(i int) uint64 { return g.lit(i, "^") })
	return each(many(each(open, g.item), g.item), func(i int) uint64 { return g.lit(i, "]") })
}

func (g *grammar) item(at int) uint64 {
	one := g.one(at)
	return one | each(each(one, func(i int) uint64 { return g.lit(i, "-") }), g.one)
}

func (g *grammar) one(at int) uint64 { return g.but(at, `\[]^-`) | g.escape(at) }

func (g *grammar) escape(at int) uint64 {
	hex := "0123456789abcdef"
	return g.word(at, `\`, "n") | g.word(at, `\`, "t") | g.word(at, `\`, "x", hex, hex) | g.word(at, `\`, `\.[](){}|*+?^-`)
}

func isPattern(text string) bool {
	g := grammar{text, map[int]uint64{}}
	return g.pattern(0)&(1<<len(text)) != 0
}

// canGoOn tells whether a pattern begins with the text: what a beginning lacks is the rest of an escape, a set or a count, and closing parentheses.
func canGoOn(text string) bool {
	for shut := 0; shut <= strings.Count(text, "("); shut++ {
		for _, rest := range []string{"", "n", "0", "00", "]", "a]", "n]", "0]", "00]", "}", "0}"} {
			if isPattern(text + rest + strings.Repeat(")", shut)) {
				return true
			}
		}
	}
	return false
}

// checkForm asks Check of a text that is not too long, so that no other error goes ahead of ErrForm.
func checkForm(t *testing.T, text string, bad bool, place int) {
	t.Helper()
	e, rule, at := Check([]string{text})
	if bad && (e != api.ErrForm || rule != 0 || at != place) {
		t.Errorf("Check(%q) = %d, %d, %d, want ErrForm, 0, %d", text, e, rule, at, place)
	}
	if !bad && e == api.ErrForm {
		t.Errorf("Check(%q) = ErrForm at %d, but it is a pattern", text, at)
	}
}

// grow takes a text with which a pattern begins, and tries each byte behind it.
func grow(t *testing.T, text string, bytes string, more int) {
	checkForm(t, text, !isPattern(text), len(text))
	if more == 0 || t.Failed() {
		return
	}
	for i := range len(bytes) {
		longer := text + bytes[i:i+1]
		if canGoOn(longer) {
			grow(t, longer, bytes, more-1)
			continue
		}
		checkForm(t, longer, true, len(text))
		checkForm(t, longer+"a]})", true, len(text))
	}
}

func TestP3FormOfAllShortTexts(t *testing.T) {
	grow(t, "", `anx0,-^\[](){}|*.`, 4)
	grow(t, "[", `ax0-^\]`, 5)
	grow(t, "a{", `09,}a{`, 5)
	grow(t, "(", `a()|*`, 7)
}

func TestP3FormOfRandomTexts(t *testing.T) {
	r := rand.New(rand.NewSource(1))
	common := `anx09,--^\\\[[]](((()))){{}}||*+?.`
	for n := 0; n < 400 && !t.Failed(); n++ {
		text := ""
		for len(text) < 24 {
			b := common[r.Intn(len(common))]
			if r.Intn(8) == 0 {
				b = byte(r.Intn(256))
			}
			longer := text + string([]byte{b})
			if canGoOn(longer) {
				text = longer
			} else if r.Intn(6) == 0 {
				checkForm(t, longer+"(a[\\", true, len(text))
			}
		}
		checkForm(t, text, !isPattern(text), len(text))
	}
}
