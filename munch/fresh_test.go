package munch

import (
	"math/rand"
	"slices"
	"testing"

	"munch/api"
)

// layInOneRoom lays lists one behind the other into one array, with spare room behind each that runs on into the next list.
func layInOneRoom(lists []*[]int) []int {
	var room []int
	for _, l := range lists {
		room = append(room, *l...)
		room = append(room, 71, 72, 73)
	}
	at := 0
	for _, l := range lists {
		n := len(*l)
		*l = room[at : at+n]
		at += n + 3
	}
	return room
}

func inOneRoom(t api.Tables) (api.Tables, []int) {
	room := layInOneRoom(listsOf(&t))
	return t, room
}

func TestP2EncodeWritesIntoNothing(t *testing.T) {
	all := samples()
	for _, turn := range oneBroken() {
		x := tablesOfABB()
		turn(&x)
		all = append(all, x)
	}
	for _, sample := range all {
		x, room := inOneRoom(cloned(sample))
		before := slices.Clone(room)
		file, e := Encode(x)
		if !slices.Equal(room, before) {
			t.Fatalf("Encode wrote into what it was handed: %.300v, before %.300v", room, before)
		}
		wantFile, want := Encode(sample)
		if file != wantFile || e != want {
			t.Errorf("Encode of lists with spare room: %d, want %d", e, want)
		}
	}
}

func TestP2EncodeKeepsNothing(t *testing.T) {
	for _, sample := range samples() {
		x := cloned(sample)
		file := fileOf(t, x)
		lexer := loaded(t, file)
		for _, l := range listsOf(&x) {
			for i := range *l {
				(*l)[i] = 0
			}
		}
		if !sameTables(lexer.Tables(), sample) || file != fileByWords(sample) {
			t.Error("tables that were written into behind Encode")
		}
		fileOf(t, sample)
	}
}

// fill writes a number into lists and into all their spare room.
func fill(l *[]int, n int) {
	for i := range (*l)[:cap(*l)] {
		(*l)[:cap(*l)][i] = n
	}
}

func TestP2TablesAreFresh(t *testing.T) {
	for _, want := range samples() {
		file := fileOf(t, want)
		x, twin := loaded(t, file), loaded(t, file)
		early := x.Tables()
		got := x.Tables()
		tokens, _ := x.Scan("abbabc")
		before := slices.Clone(tokens)
		// Each list is filled with a number of its own: no two of them share room.
		for i, l := range listsOf(&got) {
			fill(l, 1000+i)
		}
		for i, l := range listsOf(&got) {
			for _, n := range (*l)[:cap(*l)] {
				if n != 1000+i {
					t.Fatalf("the lists %d and %d share room", i, n-1000)
				}
			}
		}
		if !sameTables(early, want) || !sameTables(x.Tables(), want) || !sameTables(twin.Tables(), want) || !sameTables(loaded(t, file).Tables(), want) {
			t.Error("tables behind the caller's writing into others")
		}
		again, _ := x.Scan("abbabc")
		if !slices.Equal(tokens, before) || !slices.Equal(again, before) {
			t.Error("tokens behind the caller's writing into tables")
		}
		for s := range want.Label {
			if x.Label(s) != want.Label[s] || x.Step(s, 'a') != leadByWords(want, s, want.Class['a']) {
				t.Errorf("the state %d behind the caller's writing into tables", s)
			}
		}
	}
}

func TestP2TokensAreFresh(t *testing.T) {
	x := lexerOfWords(t)
	for _, text := range []string{"if iff", "", "?", times("if ", 600), times("i", 2000)} {
		first, _ := x.Scan(text)
		second, _ := x.Scan(text)
		want := slices.Clone(first)
		for i := range second[:cap(second)] {
			second[:cap(second)][i] = token(77, 77, 77)
		}
		third, _ := x.Scan(text)
		if !slices.Equal(first, want) || !slices.Equal(third, want) {
			t.Errorf("tokens of %.20q behind the caller's writing into others", text)
		}
		for i := range third[:cap(third)] {
			third[:cap(third)][i] = token(78, 78, 78)
		}
		for _, k := range second[:cap(second)] {
			if k != token(77, 77, 77) {
				t.Errorf("two answers of %.20q share room", text)
			}
		}
	}
}

// TestP2CallsHangOnArgumentsAlone lets the calls of several lexers follow one another in any order.
func TestP2CallsHangOnArgumentsAlone(t *testing.T) {
	r := rand.New(rand.NewSource(2))
	var tables []api.Tables
	var lexers []*Lexer
	for _, sample := range append(samples(), randomTables(r), randomTables(r), randomTables(r)) {
		tables = append(tables, sample)
		lexers = append(lexers, lexerOf(t, sample))
	}
	texts := []string{"", "abb", "a\x00b\xffaa", times("ab", 50), "zyx[]"}
	for range 3000 {
		i, text := r.Intn(len(tables)), texts[r.Intn(len(texts))]
		s, b := r.Intn(100)-2, r.Intn(260)-2
		switch r.Intn(6) {
		case 0:
			cut(t, lexers[i], text, cutByWords(tables[i], text)...)
		case 1:
			lexers[i].Scan(times("a", 2001))
			Load("MUN1" + text)
			Encode(api.Tables{Rules: s})
		case 2:
			want := none
			if 0 <= s && s < len(tables[i].Label) && 0 <= b && b < 256 {
				want = leadByWords(tables[i], s, tables[i].Class[b])
			}
			if got := lexers[i].Step(s, b); got != want {
				t.Fatalf("Step(%d, %d) = %d, want %d", s, b, got, want)
			}
		case 3:
			want := none
			if 0 <= s && s < len(tables[i].Label) {
				want = tables[i].Label[s]
			}
			if got := lexers[i].Label(s); got != want {
				t.Fatalf("Label(%d) = %d, want %d", s, got, want)
			}
		case 4:
			if !sameTables(lexers[i].Tables(), tables[i]) {
				t.Fatal("Tables behind other calls")
			}
		case 5:
			if len(tables[i].Check) < 1000 {
				fileOf(t, tables[i])
			}
		}
	}
}

// TestP1AnyTables hands in lists of any length and any numbers.
func TestP1AnyTables(t *testing.T) {
	r := rand.New(rand.NewSource(1))
	for range 20000 {
		x := randomTables(r)
		for range 20 {
			turned(r, &x)
		}
		for _, l := range listsOf(&x) {
			if r.Intn(6) == 0 {
				*l = (*l)[:r.Intn(len(*l)+1)]
			}
		}
		file, e := Encode(x)
		if sound := soundByWords(x); sound != (e == api.OK) || sound != (file != "") || e != api.OK && e != api.ErrTable {
			t.Fatalf("Encode of any tables: %d, %d bytes", e, len(file))
		}
	}
	long := make([]int, 3000000)
	refused(t, "long lists", api.Tables{Rules: 1, Class: long, Label: long, Base: long, Def: long, Check: long, Next: long})
	x := tablesOfABB()
	x.Check, x.Next = long, long
	refused(t, "many cells", x)
}

// TestP1LoadedAreSafe takes what Load takes of turned files, and makes all calls of it.
func TestP1LoadedAreSafe(t *testing.T) {
	r := rand.New(rand.NewSource(3))
	taken := 0
	for range 20000 {
		file := fileByWords(randomTables(r))
		for range r.Intn(4) {
			at := len(file) - 5 - r.Intn(len(file)-266)
			file = put(file, at, max(0, int(file[at])+r.Intn(5)-2))
		}
		x, e := Load(resealed(file))
		if e != api.OK {
			continue
		}
		taken++
		tables := x.Tables()
		if !soundByWords(tables) {
			t.Fatalf("Load took tables that are not sound: %v", tables)
		}
		text := bytesOf(r.Intn(256), 88+r.Intn(10), 88+r.Intn(10), 88+r.Intn(10), 88+r.Intn(10), r.Intn(256))
		cut(t, x, text, cutByWords(tables, text)...)
		x.Step(r.Intn(20)-5, r.Intn(300)-20)
		x.Label(r.Intn(20) - 5)
	}
	if taken < 2000 {
		t.Errorf("%d files were taken", taken)
	}
}

// TestP1ErrorsComeAlone: with an error there is no other result.
func TestP1ErrorsComeAlone(t *testing.T) {
	if file, e := Encode(api.Tables{}); file != "" || e != api.ErrTable {
		t.Errorf("Encode: %q, %d", file, e)
	}
	if tokens, e := lexerOfWords(t).Scan(times("if ", 700)); len(tokens) != 0 || e != api.ErrLong {
		t.Errorf("Scan: %d tokens, %d", len(tokens), e)
	}
	for _, c := range []struct {
		file string
		want api.Errno
	}{
		{"MUN", api.ErrMagic}, {"MUN1", api.ErrSize}, {put(fileOf(t, tablesOfA()), 20, 1), api.ErrSum}, {resealed(put(fileOf(t, tablesOfA()), 10, 1)), api.ErrTable},
	} {
		notLoaded(t, "an error", c.file, c.want)
	}
}
