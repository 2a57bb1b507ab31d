package pattern

import "munch/api"

// tooDeep answers the place of the first parenthesis that is one too many, or None.
func tooDeep(parts []Part) int {
	open := 0
	for _, part := range parts {
		open += Opens(part.Kind)
		if open > api.MaxDeep {
			return part.At
		}
	}
	return api.None
}

// falling answers the place of the first item or count that falls, or None.
func falling(parts []Part) int {
	for _, part := range parts {
		if part.Falls != api.None {
			return part.Falls
		}
	}
	return api.None
}

// matchless answers the place of the first set that has no byte, or None.
func matchless(parts []Part) int {
	for _, part := range parts {
		if part.Kind == Place && part.Has.isEmpty() {
			return part.At
		}
	}
	return api.None
}

// Parse answers the parts of a pattern; or what is wrong with it, and where, as P3 says of one pattern.
func Parse(p string) ([]Part, api.Errno, int) {
	if len(p) > api.MaxPattern {
		return nil, api.ErrLong, 0
	}
	parts, end, ok := readParts(p)
	if !ok {
		return nil, api.ErrForm, end
	}
	at := tooDeep(parts)
	if at != api.None {
		return nil, api.ErrDeep, at
	}
	at = falling(parts)
	if at != api.None {
		return nil, api.ErrValue, at
	}
	at = matchless(parts)
	if at != api.None {
		return nil, api.ErrEmpty, at
	}
	return parts, api.OK, 0
}

// capped keeps numbers of places small: counts within counts would soon be too great for an int, and all above MaxPlaces are alike.
func capped(places int) int {
	if places > api.MaxPlaces {
		return api.MaxPlaces + 1
	}
	return places
}

// CountPlaces answers how many places the pattern of these parts has when it is written out, or MaxPlaces + 1 if there are more.
func CountPlaces(parts []Part) int {
	var outer []int // of each open parenthesis: the places ahead of it, back to the one around it
	ahead := 0      // behind the last open one: the places ahead of the last piece
	last := 0       // the places of the last piece, which a count would multiply
	for _, part := range parts {
		switch part.Kind {
		case Place:
			ahead = capped(ahead + last)
			last = 1
		case Open:
			before := capped(ahead + last)
			outer = append(outer, before)
			ahead = 0
			last = 0
		case Shut:
			last = capped(ahead + last)
			ahead = 0
			if len(outer) > 0 {
				ahead = outer[len(outer)-1]
				outer = outer[:len(outer)-1]
			}
		case Bar:
			ahead = capped(ahead + last)
			last = 0
		case Count:
			last = capped(last * part.Most)
		}
	}
	return capped(ahead + last)
}

// Check answers what is wrong with a list of patterns, with which rule, and where (P3).
func Check(patterns []string) (api.Errno, int, int) {
	if len(patterns) == 0 || len(patterns) > api.MaxRules {
		return api.ErrRules, 0, 0
	}
	places := 0
	for rule, p := range patterns {
		parts, e, at := Parse(p)
		if e != api.OK {
			return e, rule, at
		}
		places += CountPlaces(parts)
	}
	if places > api.MaxPlaces {
		return api.ErrPlaces, 0, 0
	}
	return api.OK, 0, 0
}
