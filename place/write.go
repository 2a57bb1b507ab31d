package place

import "munch/pattern"

// rowEnd answers where the first row of a pattern ends.
func rowEnd(parts []pattern.Part) int {
	open := 0
	for i, part := range parts {
		if part.Kind == pattern.Bar && open == 0 {
			return i
		}
		open += pattern.Opens(part.Kind)
	}
	return len(parts)
}

// atomEnd answers where the first atom of a row ends.
func atomEnd(parts []pattern.Part) int {
	open := 0
	for i, part := range parts {
		open += pattern.Opens(part.Kind)
		if open == 0 {
			return i + 1
		}
	}
	return len(parts)
}

// pieceEnd answers where the first piece of a row ends.
func pieceEnd(parts []pattern.Part) int {
	end := atomEnd(parts)
	for end < len(parts) && pattern.IsSuffix(parts[end].Kind) {
		end++
	}
	return end
}

// whole lays a pattern into the net.
func (n *Net) whole(parts []pattern.Part) run {
	end := rowEnd(parts)
	first := n.row(parts[:end])
	if end >= len(parts) {
		return first
	}
	others := n.whole(parts[end+1:])
	return either(first, others)
}

func (n *Net) row(parts []pattern.Part) run {
	all := nothing()
	for len(parts) > 0 {
		end := pieceEnd(parts)
		one := n.piece(parts[:end])
		all = n.joined(all, one)
		parts = parts[end:]
	}
	return all
}

// piece lays a piece into the net: the last of its parts tells what it is.
func (n *Net) piece(parts []pattern.Part) run {
	// Counts within counts could ask for any number of copies of what has no place; it matches the empty text alone, however often it is written.
	if pattern.CountPlaces(parts) == 0 {
		return nothing()
	}
	end := len(parts) - 1 // not below 0: there is a place
	last := parts[end]
	switch last.Kind {
	case pattern.Place:
		return n.place(last.Has)
	case pattern.Shut: // behind a place, so not the first part
		return n.whole(parts[1:end])
	case pattern.Count:
		return n.counted(parts[:end], last.Least, last.Most)
	}
	one := n.piece(parts[:end])
	if last.Kind == pattern.Star || last.Kind == pattern.Plus {
		n.link(one.last, one.first)
	}
	if last.Kind == pattern.Star || last.Kind == pattern.Maybe {
		one.empty = true
	}
	return one
}

// counted lays a piece into the net most times, in a row; those above least may be left out.
func (n *Net) counted(parts []pattern.Part, least int, most int) run {
	all := nothing()
	for i := 0; i < most; i++ {
		one := n.piece(parts)
		if i >= least {
			one.empty = true
		}
		all = n.joined(all, one)
	}
	return all
}
