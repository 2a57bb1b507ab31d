package pattern

import (
	"slices"
	"testing"

	"munch/api"
)

func parse(t *testing.T, p string) []Part {
	t.Helper()
	parts, e, at := Parse(p)
	if e != api.OK || at != 0 {
		t.Fatalf("Parse(%q) = %d, %d, want OK, 0", p, e, at)
	}
	return parts
}

func TestParseCutsIntoParts(t *testing.T) {
	parts := parse(t, `a(\x41|[^b-d]*)+.?{3}\n{0,9}`)
	var kinds []Kind
	var places, counts []int
	for _, part := range parts {
		kinds = append(kinds, part.Kind)
		places = append(places, part.At)
		if part.Falls != api.None {
			t.Errorf("the part at %d falls", part.At)
		}
		if part.Kind == Count {
			counts = append(counts, part.Least, part.Most)
		}
	}
	if want := []Kind{Place, Open, Place, Bar, Place, Star, Shut, Plus, Place, Maybe, Count, Place, Count}; !slices.Equal(kinds, want) {
		t.Errorf("kinds %v, want %v", kinds, want)
	}
	if want := []int{0, 1, 2, 6, 7, 13, 14, 15, 16, 17, 18, 21, 23}; !slices.Equal(places, want) {
		t.Errorf("places %v, want %v", places, want)
	}
	if want := []int{3, 3, 0, 9}; !slices.Equal(counts, want) {
		t.Errorf("counts %v, want %v", counts, want)
	}
	if parts := parse(t, ""); len(parts) != 0 {
		t.Errorf("the empty pattern has %d parts", len(parts))
	}
}

// bytesOf answers the bytes from low to high, and those of more.
func bytesOf(low int, high int, more string) Set {
	var s Set
	for b := low; b <= high; b++ {
		s[b] = true
	}
	for i := range len(more) {
		s[more[i]] = true
	}
	return s
}

func TestParseTellsWhatAPlaceMatches(t *testing.T) {
	but10 := bytesOf(11, 255, "\x00\x01\x02\x03\x04\x05\x06\x07\x08\x09")
	for _, c := range []struct {
		p    string
		want Set
	}{
		{"a", bytesOf('a', 'a', "")}, {"\xff", bytesOf(255, 255, "")}, {"\x00", bytesOf(0, 0, "")}, {"^", bytesOf('^', '^', "")},
		{`\n`, bytesOf(10, 10, "")}, {`\t`, bytesOf(9, 9, "")}, {`\x41`, bytesOf(65, 65, "")}, {`\xf0`, bytesOf(240, 240, "")}, {`\x0f`, bytesOf(15, 15, "")}, {`\x9a`, bytesOf(154, 154, "")}, {`\\`, bytesOf(92, 92, "")}, {`\-`, bytesOf('-', '-', "")},
		{".", but10}, {`[^\n]`, but10},
		{"[a]", bytesOf('a', 'a', "")}, {"[a-c]", bytesOf('a', 'c', "")}, {"[a-cxb-d.]", bytesOf('a', 'd', "x.")}, {`[\x00-\xff]`, bytesOf(0, 255, "")}, {`[\--\]n]`, bytesOf('-', ']', "n")},
		{`[^\x00-b]`, bytesOf('c', 255, "")}, {`[^\x00-bd-\xfe]`, bytesOf('c', 'c', "\xff")},
	} {
		parts := parse(t, c.p)
		if len(parts) != 1 || parts[0].Kind != Place || parts[0].Has != c.want {
			t.Errorf("Parse(%q) = %v, want one place of %v", c.p, parts, c.want)
		}
	}
}

func TestParseRefuses(t *testing.T) {
	for _, c := range []struct {
		p  string
		e  api.Errno
		at int
	}{
		{"aaaaaaaaaaaaaaaaaaaaaaaaaaaaaaaaaaaaaaaaa", api.ErrLong, 0}, {"a)", api.ErrForm, 1}, {"((((((()))))))", api.ErrDeep, 6}, {"a{2,1}", api.ErrValue, 1}, {`a[^\x00-\xff]`, api.ErrEmpty, 1},
	} {
		parts, e, at := Parse(c.p)
		if parts != nil || e != c.e || at != c.at {
			t.Errorf("Parse(%q) = %v, %d, %d, want nil, %d, %d", c.p, parts, e, at, c.e, c.at)
		}
	}
}

func TestCountPlaces(t *testing.T) {
	for _, c := range []struct {
		p    string
		want int
	}{
		{"", 0}, {"a{3}[bc]{0,2}", 5}, {"(a{3}b){2}", 8}, {"a{0}", 0}, {"a|b|", 2}, {"((a)(b|c)d)*", 4}, {"a{9}{9}", 81}, {"a{8}{6}{2}", 96}, {"a{9}{9}{2}", 97}, {"a{9}{9}{9}{9}{0}b", 1},
	} {
		parts := parse(t, c.p)
		if got := CountPlaces(parts); got != c.want {
			t.Errorf("%q has %d places, want %d", c.p, got, c.want)
		}
	}
}
