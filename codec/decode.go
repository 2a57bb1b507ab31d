package codec

import (
	"munch/api"
	"munch/table"
)

// headSize is how many bytes there are ahead of the classes.
const headSize = 10

// head is what a file says of its size.
type head struct {
	rules, states, cells, width int
}

// reader takes numbers from a file, from the place at on.
type reader struct {
	file string
	at   int
}

// takeByte takes the next byte; 0, if there is none.
func (r *reader) takeByte() int {
	if r.at >= len(r.file) {
		return 0
	}
	n := int(r.file[r.at])
	r.at++
	return n
}

// take takes a number of so many bytes, the high one first.
func (r *reader) take(width int) int {
	n := 0
	for range width {
		low := r.takeByte()
		n = n<<8 + low
	}
	return n
}

// takeList takes so many numbers of so many bytes, with less taken off each.
func (r *reader) takeList(count int, width int, less int) []int {
	var numbers []int
	for range count {
		n := r.take(width)
		numbers = append(numbers, n-less)
	}
	return numbers
}

func isMagic(file string) bool {
	return len(file) >= len(magic) && file[:len(magic)] == magic
}

func readHead(file string) head {
	r := reader{file, len(magic)}
	var h head
	h.rules = r.take(1)
	r.take(1) // how many classes there are tells nothing of the size
	h.states = r.take(1)
	h.cells = r.take(2)
	h.width = r.take(1)
	return h
}

// canBe tells whether there are files of such a head.
func (h head) canBe() bool {
	if h.rules < 1 || h.rules > api.MaxRules || h.states < 1 || h.states > api.MaxStates {
		return false
	}
	return h.cells <= api.MaxCells && (h.width == 1 || h.width == 2)
}

// size answers how many bytes a file of this head has.
func (h head) size() int {
	return headSize + table.Bytes + h.states*(1+h.width+1) + h.cells*2 + sumSize
}

// hasSum tells whether the last bytes of a file are the sum of those ahead.
func hasSum(file string) bool {
	body := len(file) - sumSize
	if body < 0 {
		return false
	}
	return file[body:] == seal(file[:body])
}

// readTables takes the tables from behind the head of a file.
func readTables(file string, h head) api.Tables {
	r := reader{file, headSize}
	var t api.Tables
	t.Rules = h.rules
	t.Class = r.takeList(table.Bytes, 1, 0)
	t.Label = r.takeList(h.states, 1, 1)
	t.Base = r.takeList(h.states, h.width, 0)
	t.Def = r.takeList(h.states, 1, 1)
	for range h.cells {
		check := r.take(1)
		next := r.take(1)
		t.Check = append(t.Check, check-1)
		t.Next = append(t.Next, next-1)
	}
	return t
}

// Decode answers the tables of a file, or what is wrong with it (P6).
func Decode(file string) (api.Tables, api.Errno) {
	if !isMagic(file) {
		return api.Tables{}, api.ErrMagic
	}
	if len(file) < headSize {
		return api.Tables{}, api.ErrSize
	}
	h := readHead(file)
	if !h.canBe() {
		return api.Tables{}, api.ErrSize
	}
	if len(file) != h.size() {
		return api.Tables{}, api.ErrSize
	}
	if !hasSum(file) {
		return api.Tables{}, api.ErrSum
	}
	t := readTables(file, h)
	again, e := Encode(&t)
	if e != api.OK || again != file {
		return api.Tables{}, api.ErrTable
	}
	return t, api.OK
}
