package pattern

// ended stands in place of a byte where a pattern has ended: no byte is below 0.
const ended = -1

func byteAt(p string, at int) int {
	if at < 0 || at >= len(p) {
		return ended
	}
	return int(p[at])
}

// isMark tells whether b may stand behind a backslash as itself.
func isMark(b int) bool {
	switch b {
	case '\\', '.', '[', ']', '(', ')', '{', '}', '|', '*', '+', '?', '^', '-':
		return true
	}
	return false
}

// isInner tells whether b may stand as itself within a set.
func isInner(b int) bool {
	switch b {
	case ended, '\\', '[', ']', '^', '-':
		return false
	}
	return true
}

// digitValue answers the number that a digit stands for, or -1.
func digitValue(b int) int {
	if b >= '0' && b <= '9' {
		return b - '0'
	}
	return -1
}

// hexValue takes no capital letters: the form has none.
func hexValue(b int) int {
	if b >= 'a' && b <= 'f' {
		return b - 'a' + 10
	}
	return digitValue(b)
}

// readHex reads the two digits of `\x`, the first of them at the place at.
func readHex(p string, at int) (int, int, bool) {
	first := byteAt(p, at)
	high := hexValue(first)
	if high < 0 {
		return 0, at, false
	}
	second := byteAt(p, at+1)
	low := hexValue(second)
	if low < 0 {
		return 0, at + 1, false
	}
	return high*16 + low, at + 2, true
}

// readEscape reads the escape whose backslash is at the place at.
func readEscape(p string, at int) (int, int, bool) {
	b := byteAt(p, at+1)
	switch b {
	case 'n':
		return '\n', at + 2, true
	case 't':
		return '\t', at + 2, true
	case 'x':
		return readHex(p, at+2)
	}
	if isMark(b) {
		return b, at + 2, true
	}
	return 0, at + 1, false
}
