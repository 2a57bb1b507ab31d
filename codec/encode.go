package codec

import (
	"munch/api"
	"munch/table"
)

const magic = "MUN1"

// sumSize is how many bytes the sum takes at a file's end.
const sumSize = 4

// writer holds what is written of a file.
type writer struct {
	bytes []byte
}

func (w *writer) putByte(n int) {
	w.bytes = append(w.bytes, byte(n))
}

// putWide puts a number in two bytes, the high one first.
func (w *writer) putWide(n int) {
	w.putByte(n >> 8)
	w.putByte(n)
}

// putList puts each number in a byte, with more added to it.
func (w *writer) putList(numbers []int, more int) {
	for _, n := range numbers {
		w.putByte(n + more)
	}
}

func (w *writer) putBases(base []int, width int) {
	for _, n := range base {
		if width == 2 {
			w.putWide(n)
		} else {
			w.putByte(n)
		}
	}
}

func (w *writer) putCells(check []int, next []int) {
	for k, s := range check {
		w.putByte(s + 1)
		w.putByte(next[k] + 1)
	}
}

// widthOf answers how many bytes a base takes.
func widthOf(base []int) int {
	for _, n := range base {
		if n > 255 {
			return 2
		}
	}
	return 1
}

// Encode answers the file of tables (P5).
func Encode(t *api.Tables) (string, api.Errno) {
	if !table.Sound(t) {
		return "", api.ErrTable
	}
	width := widthOf(t.Base)
	classes := table.Classes(t.Class)
	var w writer
	w.bytes = []byte(magic)
	w.putByte(t.Rules)
	w.putByte(classes - 1)
	w.putByte(len(t.Label))
	w.putWide(len(t.Check))
	w.putByte(width)
	w.putList(t.Class, 0)
	w.putList(t.Label, 1)
	w.putBases(t.Base, width)
	w.putList(t.Def, 1)
	w.putCells(t.Check, t.Next)
	body := string(w.bytes)
	return body + seal(body), api.OK
}
