package munch

import (
	"fmt"
	"math/rand"
	"testing"

	"munch/api"
)

// writer writes a random pattern that has the form of one, and notes as it writes what Check must find; -1 where there is nothing to find.
type writer struct {
	r                  *rand.Rand
	text               string
	open               int
	groups             int // of ten atoms, about how many are groups
	suffixes           int // of ten times, about how often a suffix follows
	pieces             int // of ten times, about how often a piece follows
	deep, value, empty int
}

func note(first *int, at int) {
	if *first < 0 {
		*first = at
	}
}

func (w *writer) one() int {
	b := w.r.Intn(256)
	switch w.r.Intn(8) {
	case 0:
		b = 0
	case 1:
		b = 255
	case 2:
		w.text += fmt.Sprintf(`\x%02x`, b)
		return b
	}
	switch b {
	case '\\', '.', '[', ']', '(', ')', '{', '}', '|', '*', '+', '?', '^', '-':
		w.text += "\\"
	}
	w.text += string([]byte{byte(b)})
	return b
}

func (w *writer) set() {
	at := len(w.text)
	w.text += "["
	not := w.r.Intn(2) == 0
	if not {
		w.text += "^"
	}
	has := map[int]bool{}
	for items := 1 + w.r.Intn(3); items > 0; items-- {
		begin := len(w.text)
		low := w.one()
		high := low
		if w.r.Intn(2) == 0 {
			w.text += "-"
			high = w.one()
		}
		if low > high {
			note(&w.value, begin)
		}
		for b := low; b <= high; b++ {
			has[b] = true
		}
	}
	w.text += "]"
	if not && len(has) == 256 {
		note(&w.empty, at)
	}
}

// atom answers how many places it wrote.
func (w *writer) atom() int {
	if w.r.Intn(10) >= w.groups {
		switch w.r.Intn(5) {
		case 0:
			w.text += "."
		case 1:
			w.set()
		default:
			w.one()
		}
		return 1
	}
	at := len(w.text)
	w.text += "("
	w.open++
	if w.open > api.MaxDeep {
		note(&w.deep, at)
	}
	places := w.pattern()
	w.open--
	w.text += ")"
	return places
}

func (w *writer) piece() int {
	places := w.atom()
	for w.r.Intn(10) < w.suffixes && len(w.text) <= 40 {
		at := len(w.text)
		m, n := w.r.Intn(10), w.r.Intn(10)
		if w.r.Intn(4) > 0 {
			m = min(m, n)
		}
		switch w.r.Intn(4) {
		case 0:
			w.text += []string{"*", "+", "?"}[w.r.Intn(3)]
		case 1:
			w.text += fmt.Sprintf("{%d}", m)
			places *= m
		default:
			w.text += fmt.Sprintf("{%d,%d}", m, n)
			places *= n
			if m > n {
				note(&w.value, at)
			}
		}
	}
	return places
}

func (w *writer) pattern() int {
	places := 0
	for w.r.Intn(10) < w.pieces && len(w.text) <= 40 {
		places += w.piece()
		if w.r.Intn(5) == 0 {
			w.text += "|"
		}
	}
	return places
}

// writePattern answers a pattern, how many places it has, and what is wrong with it.
func writePattern(r *rand.Rand) (string, int, api.Errno, int) {
	w := writer{r: r, groups: r.Intn(10), suffixes: r.Intn(7), pieces: 4 + r.Intn(4), deep: -1, value: -1, empty: -1}
	places := w.pattern()
	switch {
	case len(w.text) > api.MaxPattern:
		return w.text, places, api.ErrLong, 0
	case w.deep >= 0:
		return w.text, places, api.ErrDeep, w.deep
	case w.value >= 0:
		return w.text, places, api.ErrValue, w.value
	case w.empty >= 0:
		return w.text, places, api.ErrEmpty, w.empty
	}
	return w.text, places, api.OK, 0
}

func TestP3RandomPatterns(t *testing.T) {
	r := rand.New(rand.NewSource(2))
	seen := map[api.Errno]int{}
	for n := 0; n < 200000; n++ {
		want := checkCase{e: api.OK}
		all := 0
		for rules := 1 + r.Intn(3); rules > 0; rules-- {
			text, places, e, at := writePattern(r)
			if want.e == api.OK && e != api.OK {
				want.e, want.rule, want.at = e, len(want.patterns), at
			}
			want.patterns = append(want.patterns, text)
			all += places
		}
		if want.e == api.OK && all > api.MaxPlaces {
			want.e = api.ErrPlaces
		}
		seen[want.e]++
		runCases(t, []checkCase{want})
	}
	t.Log("how often each error was wanted:", seen)
	for _, e := range []api.Errno{api.OK, api.ErrLong, api.ErrDeep, api.ErrValue, api.ErrEmpty, api.ErrPlaces} {
		if seen[e] < 50 {
			t.Errorf("the random patterns have the error %d but %d times", e, seen[e])
		}
	}
}
