package munch

import (
	"math/rand"
	"slices"
	"testing"

	"munch/api"
)

// loadByWords says of a file what P6 says of it, and which tables it has.
func loadByWords(file string) (api.Tables, api.Errno) {
	if len(file) < 4 || file[:4] != "MUN1" {
		return api.Tables{}, api.ErrMagic
	}
	if len(file) < 10 {
		return api.Tables{}, api.ErrSize
	}
	rules, states, cells, width := int(file[4]), int(file[6]), int(file[7])*256+int(file[8]), int(file[9])
	if rules == 0 || rules > 8 || states == 0 || states > 96 || cells > 24576 || width == 0 || width > 2 {
		return api.Tables{}, api.ErrSize
	}
	if len(file) != 10+256+states+width*states+states+2*cells+4 {
		return api.Tables{}, api.ErrSize
	}
	if file != sealed(file[:len(file)-4]) {
		return api.Tables{}, api.ErrSum
	}
	t := api.Tables{Rules: rules}
	for b := range 256 {
		t.Class = append(t.Class, int(file[10+b]))
	}
	for s := range states {
		t.Label = append(t.Label, int(file[266+s])-1)
		base := 0
		for i := range width {
			base = base*256 + int(file[266+states+s*width+i])
		}
		t.Base = append(t.Base, base)
		t.Def = append(t.Def, int(file[266+states+states*width+s])-1)
	}
	for k := range cells {
		t.Check = append(t.Check, int(file[266+2*states+states*width+2*k])-1)
		t.Next = append(t.Next, int(file[266+2*states+states*width+2*k+1])-1)
	}
	if !soundByWords(t) || fileByWords(t) != file {
		return api.Tables{}, api.ErrTable
	}
	return t, api.OK
}

func loaded(t *testing.T, file string) *Lexer {
	t.Helper()
	x, e := Load(file)
	if e != api.OK || x == nil {
		t.Fatalf("Load(%.300x of %d bytes) = %d, want OK", file, len(file), e)
	}
	return x
}

func notLoaded(t *testing.T, what string, file string, want api.Errno) {
	t.Helper()
	if x, e := Load(file); x != nil || e != want {
		t.Errorf("Load, %s (%.40x of %d bytes): %v, %d, want nil, %d", what, file, len(file), x != nil, e, want)
	}
}

// loadedAsByWords compares Load to what the words say.
func loadedAsByWords(t *testing.T, file string) api.Errno {
	t.Helper()
	want, wantError := loadByWords(file)
	x, e := Load(file)
	if e != wantError || (x != nil) != (e == api.OK) {
		t.Fatalf("Load(%.300x of %d bytes) = %d, want %d", file, len(file), e, wantError)
	}
	if e == api.OK && !sameTables(x.Tables(), want) {
		t.Fatalf("Load(%.300x of %d bytes) has the tables %v, want %v", file, len(file), x.Tables(), want)
	}
	return e
}

// put turns one byte of a file.
func put(file string, at int, b int) string { return file[:at] + bytesOf(b) + file[at+1:] }

// resealed puts the right sum at the end of a file.
func resealed(file string) string { return sealed(file[:len(file)-4]) }

func fileOf(t *testing.T, tables api.Tables) string {
	t.Helper()
	return encoded(t, "sample", tables)
}

func TestP6Examples(t *testing.T) {
	notLoaded(t, "nothing", "", api.ErrMagic)
	notLoaded(t, "the magic alone", "MUN1", api.ErrSize)
	file := fileOf(t, tablesOfA())
	notLoaded(t, "a class turned", put(file, 107, 0), api.ErrSum)
	notLoaded(t, "a class turned, with the right sum", resealed(put(file, 107, 0)), api.ErrTable)
	loaded(t, file)
}

func TestP6Magic(t *testing.T) {
	file := fileOf(t, tablesOfABB())
	for i := range 4 {
		notLoaded(t, "a piece of the magic", file[:i], api.ErrMagic)
		notLoaded(t, "a turned magic", resealed(put(file, i, 'X')), api.ErrMagic)
		notLoaded(t, "a turned magic alone", put("MUN1", i, int("mun2"[i])), api.ErrMagic)
		notLoaded(t, "bytes ahead of the magic", times(" ", i+1)+file, api.ErrMagic)
	}
	notLoaded(t, "a turned magic and no size", "MUN2"+file[4:50], api.ErrMagic)
	notLoaded(t, "other bytes", times("x", 1000), api.ErrMagic)
}

func TestP6SizeOfAHead(t *testing.T) {
	for n := 4; n < 10; n++ {
		notLoaded(t, "a piece of the head", ("MUN1" + bytesOf(1, 0, 1, 0, 0, 1))[:n], api.ErrSize)
	}
	notLoaded(t, "the head alone", "MUN1"+bytesOf(1, 0, 1, 0, 0, 1), api.ErrSize)
	notLoaded(t, "the head with a sum", sealed("MUN1"+bytesOf(1, 0, 1, 0, 0, 1)), api.ErrSize)
}

// sized makes a file with the length and the sum that its head asks for. Its tables are of nothing else wrong than what the head says.
func sized(rules int, states int, cells int, width int) string {
	body := "MUN1" + bytesOf(rules, 0, states, cells/256, cells%256, width) + times("\x00", 256)
	body += times("\x00", states) + times("\x00", states*width) + times("\x00", states)
	if cells > 0 {
		body += times("\x00\x00", cells-1) + "\x01\x01"
	}
	return sealed(body)
}

func TestP6SizeByNumbers(t *testing.T) {
	loaded(t, sized(1, 1, 0, 1))
	loaded(t, sized(8, 1, 0, 1))
	loaded(t, sized(8, 96, 0, 1))
	loaded(t, sized(8, 96, 1, 1))
	for _, rules := range []int{0, 9, 10, 128, 255} {
		notLoaded(t, "rules", sized(rules, 1, 0, 1), api.ErrSize)
	}
	for _, states := range []int{0, 97, 98, 192, 255} {
		notLoaded(t, "states", sized(1, states, 0, 1), api.ErrSize)
	}
	for _, cells := range []int{24577, 24578, 32768, 65535} {
		notLoaded(t, "cells", sized(1, 1, cells, 1), api.ErrSize)
	}
	notLoaded(t, "as many cells as may be, of which the last is out of reach", sized(1, 1, 24576, 1), api.ErrTable)
	loaded(t, fileOf(t, spreadTables(24576)))
	for _, width := range []int{0, 3, 4, 255} {
		notLoaded(t, "width", sized(1, 1, 0, width), api.ErrSize)
	}
	notLoaded(t, "a width of 2 without need", sized(1, 1, 0, 2), api.ErrTable)
}

func TestP6SizeOfFiles(t *testing.T) {
	for i, tables := range samples() {
		file := fileOf(t, tables)
		loaded(t, file)
		for _, more := range []string{"\x00", "\xff", "\x00\x00", file[len(file)-4:], times("\x00", 100), file} {
			notLoaded(t, "bytes behind", file+more, api.ErrSize)
			notLoaded(t, "bytes behind and their sum", sealed(file+more), api.ErrSize)
			notLoaded(t, "bytes put in ahead of the sum", sealed(file[:len(file)-4]+more), api.ErrSize)
		}
		for cut := 1; cut <= len(file)-10; cut += 1 + i*i*20 {
			notLoaded(t, "cut", file[:len(file)-cut], api.ErrSize)
			notLoaded(t, "cut and sealed", sealed(file[:len(file)-4-min(cut, len(file)-14)]), api.ErrSize)
		}
		for at := 6; at < 10; at++ {
			notLoaded(t, "a number of the head turned", resealed(put(file, at, int(file[at])^1)), api.ErrSize)
		}
	}
}

func TestP6Sum(t *testing.T) {
	for i, tables := range samples() {
		file := fileOf(t, tables)
		for at := 10; at < len(file); at += 1 + i*i*30 {
			for _, bit := range []int{1, 16, 128, 255} {
				notLoaded(t, "bits turned", put(file, at, int(file[at])^bit), api.ErrSum)
			}
		}
		notLoaded(t, "another number of classes", put(file, 5, int(file[5])^1), api.ErrSum)
		notLoaded(t, "another number of rules", put(file, 4, int(file[4])^9), api.ErrSum)
		body := file[:len(file)-4]
		sum := file[len(file)-4:]
		turnedAbout := []byte(sum)
		slices.Reverse(turnedAbout)
		notLoaded(t, "no sum", body+"\x00\x00\x00\x00", api.ErrSum)
		notLoaded(t, "the low byte of the sum first", body+string(turnedAbout), api.ErrSum)
		notLoaded(t, "the sum without the last turn", body+bytesOf(int(^sum[0]), int(^sum[1]), int(^sum[2]), int(^sum[3])), api.ErrSum)
	}
}

// TestP6EachByte turns each byte of a file to each other byte, with the right sum.
func TestP6EachByte(t *testing.T) {
	wide := spreadTables(257)
	wide.Rules, wide.Def[1], wide.Next[256] = 8, 0, none
	var seen [15]int
	for i, file := range []string{fileOf(t, tablesOfABB()), fileOf(t, wide)} {
		for at := range len(file) - 4 {
			for b := 0; b < 256; b += 1 + 4*i {
				seen[loadedAsByWords(t, resealed(put(file, at, b)))]++
			}
		}
	}
	if seen[api.OK] < 1000 || seen[api.ErrTable] < 1000 || seen[api.ErrSize] < 1000 || seen[api.ErrMagic] < 1000 {
		t.Errorf("the errors, by number: %v", seen)
	}
}

func TestP6NotWhatEncodeAnswers(t *testing.T) {
	file := fileOf(t, tablesOfABB())
	body := file[:len(file)-4]
	for _, c := range []struct {
		what string
		body string
	}{
		{"fewer classes than there are", put(body, 5, 1)},
		{"more classes than there are", put(body, 5, 3)},
		{"many more classes than there are", put(body, 5, 255)},
		{"a width of 2 without need", "MUN1" + bytesOf(1, 2, 4, 0, 5, 2) + body[10:270] + bytesOf(0, 0, 0, 1, 0, 2, 0, 0) + body[274:]},
		{"the first class 1", put(body, 10, 1)},
		{"a class that is left out", put(body, 10+'b', 3)},
		{"a Label that is no rule", put(body, 266, 2)},
		{"the greatest Label", put(body, 266, 255)},
		{"a Base above the cells", put(body, 273, 6)},
		{"a Base behind its cell", put(body, 272, 5)},
		{"a Def of its own state", put(body, 276, 3)},
		{"a Def above its state", put(body, 274, 2)},
		{"a Check that is no state", put(body, 286, 5)},
		{"a Check whose Base is behind", put(body, 278, 2)},
		{"a Check that is too far from its Base", put(body, 284, 1)},
		{"a Next without a Check", put(body, 279, 1)},
		{"a Next that is no state", put(body, 287, 5)},
		{"an empty cell at the end", put(put(body, 286, 0), 287, 0)},
	} {
		notLoaded(t, c.what, c.body+file[len(file)-4:], api.ErrSum)
		if c.what != "a width of 2 without need" && len(c.body) != len(body) {
			t.Errorf("%s: %d bytes", c.what, len(c.body))
		}
		notLoaded(t, c.what, sealed(c.body), api.ErrTable)
	}
	loaded(t, sealed(put(put(body, 4, 8), 266, 8)))
	loaded(t, sealed(put(body, 273, 5)))
}

func TestP6OrderOfErrors(t *testing.T) {
	file := fileOf(t, tablesOfABB())
	// the magic, the size, the sum and the tables wrong; then one after the other right
	wrong := put(put(put(file, 266, 9), 6, 0), 0, 'm')
	notLoaded(t, "all wrong", wrong+"!", api.ErrMagic)
	wrong = put(wrong, 0, 'M')
	notLoaded(t, "the size, the sum and the tables wrong", wrong+"!", api.ErrSize)
	notLoaded(t, "a count, the sum and the tables wrong", wrong, api.ErrSize)
	wrong = put(wrong, 6, 4)
	notLoaded(t, "the length, the sum and the tables wrong", wrong+"!", api.ErrSize)
	notLoaded(t, "the sum and the tables wrong", wrong, api.ErrSum)
	notLoaded(t, "the tables wrong", resealed(wrong), api.ErrTable)
	loaded(t, resealed(put(wrong, 266, 0)))
}

// TestP6Bits turns bits over that lie within 32 consecutive ones.
func TestP6Bits(t *testing.T) {
	r := rand.New(rand.NewSource(6))
	for _, tables := range []api.Tables{tablesOfA(), tablesOfABB(), spreadTables(300)} {
		file := fileOf(t, tables)
		for at := range 8 * len(file) {
			for _, mask := range []uint32{1 << 31, 1<<31 | 1<<r.Intn(31), 1<<31 | 1, 1<<31 | r.Uint32(), 0xffffffff, 0x04c11db7 | 1<<31} {
				turned := []byte(file)
				for k := range 32 {
					if i := at + k; i < 8*len(file) && mask>>(31-k)&1 == 1 {
						turned[i/8] ^= 128 >> (i % 8)
					}
				}
				if x, e := Load(string(turned)); x != nil || e == api.OK {
					t.Fatalf("from bit %d on %08x turned over: %d", at, mask, e)
				}
			}
		}
	}
}

func TestP6RandomFiles(t *testing.T) {
	r := rand.New(rand.NewSource(7))
	var seen [15]int
	for range 30000 {
		x := randomTables(r)
		file := fileOf(t, x)
		if got := loaded(t, file).Tables(); !sameTables(got, x) {
			t.Fatalf("the tables %v of the file of %v", got, x)
		}
		for range 1 + r.Intn(3) {
			at := r.Intn(len(file))
			if r.Intn(2) == 0 {
				at = len(file) - 1 - r.Intn(len(file)-266)
			}
			file = put(file, at, max(0, int(file[at])+r.Intn(7)-3))
		}
		if r.Intn(8) > 0 {
			file = resealed(file)
		}
		seen[loadedAsByWords(t, file)]++
	}
	if seen[api.OK] < 300 || seen[api.ErrTable] < 300 || seen[api.ErrSize] < 100 || seen[api.ErrSum] < 300 || seen[api.ErrMagic] < 100 {
		t.Errorf("the errors, by number: %v", seen)
	}
}

func TestP6AnyBytes(t *testing.T) {
	r := rand.New(rand.NewSource(8))
	for range 30000 {
		bytes := make([]byte, r.Intn(700))
		for i := range bytes {
			bytes[i] = byte(r.Intn(256) >> r.Intn(9))
		}
		file := string(bytes)
		loadedAsByWords(t, file)
		loadedAsByWords(t, "MUN1"+file)
		loadedAsByWords(t, sealed("MUN1"+file))
		states, cells, width := 1+r.Intn(96), r.Intn(40), 1+r.Intn(2)
		more := make([]byte, 256+states*(2+width)+2*cells)
		for i := range more {
			more[i] = byte(r.Intn(256) >> r.Intn(9))
		}
		loadedAsByWords(t, sealed("MUN1"+bytesOf(1+r.Intn(8), r.Intn(256), states, 0, cells, width)+string(more)))
	}
}
