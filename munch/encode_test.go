package munch

import (
	"hash/crc32"
	"math"
	"math/bits"
	"math/rand"
	"slices"
	"testing"

	"munch/api"
)

// sealed puts the sum behind bytes: it is that of the library with the bits of each byte turned about.
func sealed(body string) string {
	turned := []byte(body)
	for i := range turned {
		turned[i] = bits.Reverse8(turned[i])
	}
	sum := bits.Reverse32(crc32.ChecksumIEEE(turned))
	return body + string([]byte{byte(sum >> 24), byte(sum >> 16), byte(sum >> 8), byte(sum)})
}

func bytesOf(numbers ...int) string {
	bytes := make([]byte, len(numbers))
	for i, n := range numbers {
		bytes[i] = byte(n)
	}
	return string(bytes)
}

// fileByWords lays down the table of P5, line by line.
func fileByWords(t api.Tables) string {
	cells := len(t.Check)
	width := 1
	if slices.Max(t.Base) > 255 {
		width = 2
	}
	file := "MUN1" + bytesOf(t.Rules) + bytesOf(slices.Max(t.Class)) + bytesOf(len(t.Label)) + bytesOf(cells/256, cells%256) + bytesOf(width)
	file += bytesOf(t.Class...)
	for _, n := range t.Label {
		file += bytesOf(n + 1)
	}
	for _, n := range t.Base {
		if width == 2 {
			file += bytesOf(n / 256)
		}
		file += bytesOf(n % 256)
	}
	for _, n := range t.Def {
		file += bytesOf(n + 1)
	}
	pairs := make([]int, 0, 2*cells)
	for k := range t.Check {
		pairs = append(pairs, t.Check[k]+1, t.Next[k]+1)
	}
	return sealed(file + bytesOf(pairs...))
}

func refused(t *testing.T, what string, tables api.Tables) {
	t.Helper()
	if file, e := Encode(tables); file != "" || e != api.ErrTable {
		t.Errorf("Encode, %s: %d bytes, %d, want ErrTable", what, len(file), e)
	}
}

func encoded(t *testing.T, what string, tables api.Tables) string {
	t.Helper()
	file, e := Encode(tables)
	if e != api.OK {
		t.Fatalf("Encode, %s: %d, want OK", what, e)
	}
	if file != fileByWords(tables) {
		t.Fatalf("Encode, %s: %.600x, want %.600x", what, file, fileByWords(tables))
	}
	return file
}

func TestP5Examples(t *testing.T) {
	file, e := Encode(tablesOfA())
	want := sealed("MUN1" + bytesOf(1, 1, 2, 0, 2, 1) + bytesOf(classesOf("a")...) + bytesOf(0, 1) + bytesOf(0, 0) + bytesOf(0, 0) + bytesOf(0, 0, 1, 2))
	if e != api.OK || file != want || len(file) != 280 {
		t.Errorf("example 5: %d, %x, want %x", e, file, want)
	}
	file, e = Encode(tablesOfABB())
	want = sealed("MUN1" + bytesOf(1, 2, 4, 0, 5, 1) + bytesOf(classesOf("ab")...) + bytesOf(0, 0, 0, 1) + bytesOf(0, 1, 2, 0) + bytesOf(0, 1, 1, 1) + bytesOf(0, 0, 1, 2, 1, 1, 2, 3, 3, 4))
	if e != api.OK || file != want {
		t.Errorf("example 6: %d, %x, want %x", e, file, want)
	}
	file, e = Encode(tablesOfNothing())
	want = sealed("MUN1" + bytesOf(1, 0, 1, 0, 0, 1) + times("\x00", 256) + bytesOf(1) + bytesOf(0) + bytesOf(0))
	if e != api.OK || file != want {
		t.Errorf("example 7: %d, %x, want %x", e, file, want)
	}
}

func TestP5WidthOfABase(t *testing.T) {
	cells := times("\x00\x00", 1) + "\x01\x02" + times("\x00\x00", 253) + "\x02\x01"
	head := bytesOf(classesOf("a")...) + bytesOf(0, 1)
	file, e := Encode(spreadTables(256))
	if want := sealed("MUN1" + bytesOf(1, 1, 2, 1, 0, 1) + head + bytesOf(0, 255) + bytesOf(0, 0) + cells); e != api.OK || file != want {
		t.Errorf("a Base of 255: %d, %x, want %x", e, file, want)
	}
	cells = times("\x00\x00", 1) + "\x01\x02" + times("\x00\x00", 254) + "\x02\x01"
	file, e = Encode(spreadTables(257))
	if want := sealed("MUN1" + bytesOf(1, 1, 2, 1, 1, 2) + head + bytesOf(0, 0, 1, 0) + bytesOf(0, 0) + cells); e != api.OK || file != want {
		t.Errorf("a Base of 256: %d, %x, want %x", e, file, want)
	}
	// The greatest Base may stand anywhere, also at a state that has no cell.
	x := spreadTables(256)
	x.Base[0], x.Check[1], x.Next[1] = 256, none, none
	encoded(t, "the first Base is 256", x)
	x.Base[0] = 255
	encoded(t, "both are 255", x)
}

func TestP5Bounds(t *testing.T) {
	for i, x := range samples() {
		file := encoded(t, "sample", x)
		if i == 3 && len(file) != 10+256+96*4+2*24576+4 {
			t.Errorf("the greatest file has %d bytes", len(file))
		}
	}
	x := tablesOfABB()
	x.Rules = 8
	x.Label = []int{7, none, 0, 6}
	encoded(t, "MaxRules", x)
	x.Rules = 9
	refused(t, "above MaxRules", x)
	x.Rules, x.Label[3] = 7, 7
	refused(t, "a Label that is no rule any more", x)
	encoded(t, "one state", chainTables(1))
	refused(t, "no state", chainTables(0))
	encoded(t, "MaxStates", chainTables(96))
	refused(t, "above MaxStates", chainTables(97))
	encoded(t, "MaxCells", spreadTables(24576))
	refused(t, "above MaxCells", spreadTables(24577))
	refused(t, "far above MaxCells", spreadTables(65536))
	refused(t, "as many cells as two bytes and more tell", spreadTables(65536+300))
}

// oneBroken gives tables each of which break one rule of soundness alone.
func oneBroken() map[string]func(x *api.Tables) {
	return map[string]func(x *api.Tables){
		"Rules 0":                          func(x *api.Tables) { x.Rules, x.Label = 0, []int{none, none, none, none} },
		"Rules -1":                         func(x *api.Tables) { x.Rules, x.Label = -1, []int{none, none, none, none} },
		"Rules 9":                          func(x *api.Tables) { x.Rules = 9 },
		"Rules 257":                        func(x *api.Tables) { x.Rules = 257 },
		"least Rules":                      func(x *api.Tables) { x.Rules = math.MinInt },
		"greatest Rules":                   func(x *api.Tables) { x.Rules = math.MaxInt },
		"no Class":                         func(x *api.Tables) { x.Class = nil },
		"255 classes' numbers":             func(x *api.Tables) { x.Class = x.Class[:255] },
		"257 classes' numbers":             func(x *api.Tables) { x.Class = append(x.Class, 0) },
		"the first Class 1":                func(x *api.Tables) { x.Class[0] = 1 },
		"the first Class -1":               func(x *api.Tables) { x.Class[0] = -1 },
		"a Class below 0":                  func(x *api.Tables) { x.Class[255] = -1 },
		"a Class two above":                func(x *api.Tables) { x.Class[255] = 4 },
		"a Class two above, at first":      func(x *api.Tables) { x.Class[1] = 2 },
		"a Class of 256":                   func(x *api.Tables) { x.Class[99] = 256 },
		"the greatest Class":               func(x *api.Tables) { x.Class[255] = math.MaxInt },
		"the least Class":                  func(x *api.Tables) { x.Class[255] = math.MinInt },
		"no states":                        func(x *api.Tables) { x.Label, x.Base, x.Def, x.Check, x.Next = nil, nil, nil, nil, nil },
		"a Label of no rule":               func(x *api.Tables) { x.Label[1] = 1 },
		"a Label below None":               func(x *api.Tables) { x.Label[1] = -2 },
		"a Label of 255":                   func(x *api.Tables) { x.Label[3] = 255 },
		"the last Label":                   func(x *api.Tables) { x.Label[3] = 1 },
		"a Label too few":                  func(x *api.Tables) { x.Label = x.Label[:3] },
		"a Label too many":                 func(x *api.Tables) { x.Label = append(x.Label, 0) },
		"a Base too few":                   func(x *api.Tables) { x.Base = x.Base[:3] },
		"a Base too many":                  func(x *api.Tables) { x.Base = append(x.Base, 0) },
		"no Base":                          func(x *api.Tables) { x.Base = nil },
		"a Base below 0":                   func(x *api.Tables) { x.Base[3] = -1 },
		"a Base above the cells":           func(x *api.Tables) { x.Base[3] = 6 },
		"the greatest Base":                func(x *api.Tables) { x.Base[3] = math.MaxInt },
		"the least Base":                   func(x *api.Tables) { x.Base[3] = math.MinInt },
		"the least Base at a cell":         func(x *api.Tables) { x.Base[2] = math.MinInt },
		"a Def too few":                    func(x *api.Tables) { x.Def = x.Def[:3] },
		"a Def too many":                   func(x *api.Tables) { x.Def = append(x.Def, none) },
		"no Def":                           func(x *api.Tables) { x.Def = nil },
		"a Def of its own":                 func(x *api.Tables) { x.Def[2] = 2 },
		"a Def of its own, at first":       func(x *api.Tables) { x.Def[0] = 0 },
		"a Def above":                      func(x *api.Tables) { x.Def[1] = 2 },
		"a Def below None":                 func(x *api.Tables) { x.Def[1] = -2 },
		"a Def that is no state":           func(x *api.Tables) { x.Def[3] = 4 },
		"two Defs in a ring":               func(x *api.Tables) { x.Def[1], x.Def[2] = 2, 1 },
		"a Check too few":                  func(x *api.Tables) { x.Check = x.Check[:4] },
		"a Check too many":                 func(x *api.Tables) { x.Check = append(x.Check, 3) },
		"a Next too few":                   func(x *api.Tables) { x.Next = x.Next[:4] },
		"a Next too many":                  func(x *api.Tables) { x.Next = append(x.Next, 3) },
		"no Next":                          func(x *api.Tables) { x.Next = nil },
		"no Check":                         func(x *api.Tables) { x.Check = nil; x.Base = []int{0, 0, 0, 0} },
		"a Check that is no state":         func(x *api.Tables) { x.Check[4] = 4 },
		"a Check below None":               func(x *api.Tables) { x.Check[4] = -2 },
		"the greatest Check":               func(x *api.Tables) { x.Check[3] = math.MaxInt },
		"the least Check":                  func(x *api.Tables) { x.Check[3] = math.MinInt },
		"a cell ahead of its Base":         func(x *api.Tables) { x.Check[0] = 1 },
		"a cell just ahead of its Base":    func(x *api.Tables) { x.Base[2] = 5 },
		"a cell just behind its classes":   func(x *api.Tables) { x.Check[3] = 0 },
		"a cell behind its classes":        func(x *api.Tables) { x.Check[4] = 3 },
		"a Next without a Check":           func(x *api.Tables) { x.Next[0] = 0 },
		"a Next whose Check is gone":       func(x *api.Tables) { x.Check[1] = none },
		"a Next that is no state":          func(x *api.Tables) { x.Next[1] = 4 },
		"a Next below None":                func(x *api.Tables) { x.Next[1] = -2 },
		"the greatest Next":                func(x *api.Tables) { x.Next[4] = math.MaxInt },
		"the least Next":                   func(x *api.Tables) { x.Next[4] = math.MinInt },
		"an empty cell below None":         func(x *api.Tables) { x.Check[0], x.Next[0] = -2, -2 },
		"the last cell empty":              func(x *api.Tables) { x.Check, x.Next = append(x.Check, none), append(x.Next, none) },
		"the last cell emptied":            func(x *api.Tables) { x.Check[4], x.Next[4] = none, none },
		"the one cell empty":               func(x *api.Tables) { x.Check, x.Next, x.Base = []int{none}, []int{none}, []int{0, 0, 0, 0} },
		"no class 2, of which a cell is":   func(x *api.Tables) { x.Class['b'] = 1 },
		"a Label as great as Rules":        func(x *api.Tables) { x.Rules, x.Label[0] = 8, 8 },
		"a Label as great as one of a 8th": func(x *api.Tables) { x.Rules, x.Label[0] = 7, 7 },
	}
}

// stillSound gives turns of the tables that break no rule, each near to one that does.
func stillSound() map[string]func(x *api.Tables) {
	return map[string]func(x *api.Tables){
		"Rules 8":                        func(x *api.Tables) { x.Rules = 8 },
		"a Label of the last rule":       func(x *api.Tables) { x.Rules, x.Label[0] = 8, 7 },
		"a Class one above":              func(x *api.Tables) { x.Class[255] = 3 },
		"a Class one above, at first":    func(x *api.Tables) { x.Class[1] = 1 },
		"a Class below the greatest":     func(x *api.Tables) { x.Class[255] = 1 },
		"a Base at the cells' end":       func(x *api.Tables) { x.Base[3] = 5 },
		"a Base moved under its cell":    func(x *api.Tables) { x.Base[2] = 4 },
		"a Base moved ahead of its cell": func(x *api.Tables) { x.Base[1] = 3 },
		"all Defs None":                  func(x *api.Tables) { x.Def = []int{none, none, none, none} },
		"all Defs just below":            func(x *api.Tables) { x.Def = []int{none, 0, 1, 2} },
		"a Next of None":                 func(x *api.Tables) { x.Next[4] = none },
		"a Next of the last state":       func(x *api.Tables) { x.Next[1] = 3 },
		"an empty cell in the midst":     func(x *api.Tables) { x.Check[2], x.Next[2] = none, none },
		"a cell of another state":        func(x *api.Tables) { x.Check[2] = 3 },
		"no cell":                        func(x *api.Tables) { x.Check, x.Next, x.Base = nil, []int{}, []int{0, 0, 0, 0} },
		"another cell":                   func(x *api.Tables) { x.Check, x.Next, x.Base[3] = append(x.Check, 3), append(x.Next, none), 3 },
		"no class 2 and no cell of it":   func(x *api.Tables) { x.Class['b'], x.Check[2], x.Next[2], x.Base[1], x.Base[2] = 0, none, none, 3, 4 },
	}
}

func TestP5EachRuleOfSoundness(t *testing.T) {
	for what, turn := range oneBroken() {
		x := tablesOfABB()
		turn(&x)
		if soundByWords(x) {
			t.Errorf("%s: these tables are sound", what)
		}
		refused(t, what, x)
	}
	for what, turn := range stillSound() {
		x := tablesOfABB()
		turn(&x)
		if !soundByWords(x) {
			t.Errorf("%s: these tables are not sound", what)
		}
		encoded(t, what, x)
	}
	refused(t, "nothing at all", api.Tables{})
}

// wildNumber is near to one that may stand in tables, or far from all.
func wildNumber(r *rand.Rand, t api.Tables) int {
	near := []int{none, 0, t.Rules, len(t.Label), len(t.Check), 256, 255, slices.Max(append(slices.Clone(t.Class), 0)), 65536, math.MinInt, math.MaxInt, 1 << 32, -1 << 32, 8, 96}
	return near[r.Intn(len(near))] + r.Intn(5) - 2
}

// turned changes a number or a length somewhere in tables.
func turned(r *rand.Rand, t *api.Tables) {
	l := listsOf(t)[r.Intn(6)]
	switch what := r.Intn(12); {
	case what == 0:
		t.Rules = wildNumber(r, *t)
	case what == 1 && len(*l) > 0:
		*l = (*l)[:len(*l)-1]
	case what == 2:
		*l = append(*l, wildNumber(r, *t))
	case what == 3:
		t.Check = append(t.Check, r.Intn(len(t.Label)+2)-1)
		t.Next = append(t.Next, r.Intn(len(t.Label)+2)-1)
	case len(*l) > 0:
		(*l)[r.Intn(len(*l))] = wildNumber(r, *t)
	}
}

func TestP5RandomTables(t *testing.T) {
	r := rand.New(rand.NewSource(5))
	var sound [2]int
	for range 20000 {
		x := randomTables(r)
		encoded(t, "random tables", x)
		for range 1 + r.Intn(3) {
			turned(r, &x)
		}
		if soundByWords(x) {
			encoded(t, "random tables, turned", x)
			sound[1]++
		} else {
			refused(t, "random tables, turned", x)
			sound[0]++
		}
	}
	if sound[0] < 500 || sound[1] < 500 {
		t.Errorf("of the random tables %d are not sound, %d are", sound[0], sound[1])
	}
}
