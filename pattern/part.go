// Package pattern reads patterns: it cuts one into its parts and tells what is wrong with it, and where.
//
// The functions whose names begin with read take a pattern and the place at which something begins in it. They answer what they read, the place behind it, and true; or, if a byte cannot stand where it stands or the pattern ends too early, that place and false.
package pattern

import "munch/api"

// Kind tells what a part of a pattern is.
type Kind int

const (
	Wrong Kind = 0 // a byte with which no part begins
	Place Kind = 1 // a plain byte, an escape, `.` or a set
	Open  Kind = 2 // `(`
	Shut  Kind = 3 // `)`
	Bar   Kind = 4 // `|`
	Star  Kind = 5 // `*`
	Plus  Kind = 6 // `+`
	Maybe Kind = 7 // `?`
	Count Kind = 8 // `{m}`, `{m,n}`
)

// Part is a part of a pattern that begins at the place At. Has is for a Place: the bytes it matches. Least and Most are for a Count. Falls is where the first item or count in it begins whose first number is above its second, or None.
type Part struct {
	Kind  Kind
	At    int
	Has   Set
	Least int
	Most  int
	Falls int
}

// kindOf tells what a part is that begins with the byte b.
func kindOf(b int) Kind {
	switch b {
	case ended, ']', '}':
		return Wrong
	case '(':
		return Open
	case ')':
		return Shut
	case '|':
		return Bar
	case '*':
		return Star
	case '+':
		return Plus
	case '?':
		return Maybe
	case '{':
		return Count
	}
	return Place
}

// IsSuffix tells whether a part of that kind belongs to the piece ahead of it.
func IsSuffix(kind Kind) bool {
	switch kind {
	case Star, Plus, Maybe, Count:
		return true
	}
	return false
}

// Opens answers by how many more parentheses are open behind a part of that kind than ahead of it.
func Opens(kind Kind) int {
	switch kind {
	case Open:
		return 1
	case Shut:
		return -1
	}
	return 0
}

// endsPiece tells whether a suffix may stand behind a part of that kind.
func endsPiece(kind Kind) bool {
	return kind == Place || kind == Shut || IsSuffix(kind)
}

// canStand tells whether a part of that kind may stand behind one of the kind before (Wrong at the beginning), with so many parentheses open.
func canStand(kind Kind, before Kind, open int) bool {
	if kind == Wrong {
		return false
	}
	if kind == Shut {
		return open > 0
	}
	if IsSuffix(kind) {
		return endsPiece(before)
	}
	return true
}

// readPlace reads a part that matches one byte.
func readPlace(p string, at int) (Part, int, bool) {
	part := Part{Kind: Place, At: at, Falls: api.None}
	b := byteAt(p, at)
	switch b {
	case '[':
		return readSet(p, at)
	case '.':
		newline := part.Has.with('\n', '\n')
		part.Has = newline.others()
		return part, at + 1, true
	case '\\':
		value, end, ok := readEscape(p, at)
		if ok {
			part.Has = part.Has.with(value, value)
		}
		return part, end, ok
	}
	part.Has = part.Has.with(b, b)
	return part, at + 1, true
}

// readMost reads what stands in a count behind its first number, which is least.
func readMost(p string, at int, least int) (int, int, bool) {
	b := byteAt(p, at)
	if b == '}' {
		return least, at + 1, true
	}
	if b != ',' {
		return 0, at, false
	}
	digit := byteAt(p, at+1)
	most := digitValue(digit)
	if most < 0 {
		return 0, at + 1, false
	}
	last := byteAt(p, at+2)
	if last != '}' {
		return 0, at + 2, false
	}
	return most, at + 3, true
}

// readCount reads the count whose `{` is at the place at.
func readCount(p string, at int) (Part, int, bool) {
	part := Part{Kind: Count, At: at, Falls: api.None}
	digit := byteAt(p, at+1)
	part.Least = digitValue(digit)
	if part.Least < 0 {
		return part, at + 1, false
	}
	most, end, ok := readMost(p, at+2, part.Least)
	if !ok {
		return part, end, false
	}
	part.Most = most
	if part.Least > part.Most {
		part.Falls = at
	}
	return part, end, true
}

// readPart reads a part, of which the first byte has told the kind.
func readPart(p string, at int, kind Kind) (Part, int, bool) {
	switch kind {
	case Place:
		return readPlace(p, at)
	case Count:
		return readCount(p, at)
	}
	return Part{Kind: kind, At: at, Falls: api.None}, at + 1, true
}

// readParts reads a whole pattern.
func readParts(p string) ([]Part, int, bool) {
	var parts []Part
	before := Wrong
	open := 0
	at := 0
	for at < len(p) {
		b := byteAt(p, at)
		kind := kindOf(b)
		if !canStand(kind, before, open) {
			return nil, at, false
		}
		part, end, ok := readPart(p, at, kind)
		if !ok {
			return nil, end, false
		}
		parts = append(parts, part)
		open += Opens(kind)
		before = kind
		at = end
	}
	return parts, at, open == 0
}
