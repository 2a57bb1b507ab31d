package pattern

import "munch/api"

// Set tells of each byte whether it is in the set.
type Set [256]bool

// with answers s and the bytes from low to high.
func (s Set) with(low int, high int) Set {
	for b := 0; b < len(s); b++ {
		if b >= low && b <= high {
			s[b] = true
		}
	}
	return s
}

// others answers the bytes that are not in s.
func (s Set) others() Set {
	for b := 0; b < len(s); b++ {
		s[b] = !s[b]
	}
	return s
}

func (s Set) isEmpty() bool {
	for b := 0; b < len(s); b++ {
		if s[b] {
			return false
		}
	}
	return true
}

// readOne reads a byte of a set, plainly written or as an escape.
func readOne(p string, at int) (int, int, bool) {
	b := byteAt(p, at)
	if b == '\\' {
		return readEscape(p, at)
	}
	if isInner(b) {
		return b, at + 1, true
	}
	return 0, at, false
}

// readItem reads an item of a set: its lower and its upper end, as they are written.
func readItem(p string, at int) (int, int, int, bool) {
	low, end, ok := readOne(p, at)
	if !ok {
		return 0, 0, end, false
	}
	b := byteAt(p, end)
	if b != '-' {
		return low, low, end, true
	}
	high, behind, good := readOne(p, end+1)
	return low, high, behind, good
}

// readSet reads the set whose `[` is at the place at.
func readSet(p string, at int) (Part, int, bool) {
	part := Part{Kind: Place, At: at, Falls: api.None}
	first := at + 1
	b := byteAt(p, first)
	if b == '^' {
		first++
	}
	end := first
	for end < len(p) {
		// A set has at least one item: at first `]` ends nothing.
		if p[end] == ']' && end > first {
			if b == '^' {
				part.Has = part.Has.others()
			}
			return part, end + 1, true
		}
		low, high, behind, ok := readItem(p, end)
		if !ok {
			return part, behind, false
		}
		if low > high && part.Falls == api.None {
			part.Falls = end
		}
		part.Has = part.Has.with(low, high)
		end = behind
	}
	return part, len(p), false
}
