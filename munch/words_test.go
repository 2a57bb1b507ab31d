package munch

import (
	"slices"
	"strconv"
	"strings"

	"munch/api"
)

// tree is a pattern as the document's table of what matches has it. Its kind is p for a place, r for a row of kids, | for one of kids, and else that of a suffix to its one kid, { for a count.
type tree struct {
	kind        byte
	has         [256]bool
	kids        []*tree
	least, most int
}

// treeReader reads what is known to have the form of a pattern.
type treeReader struct{ text string }

func (r *treeReader) take() byte {
	b := r.text[0]
	r.text = r.text[1:]
	return b
}

func (r *treeReader) isAt(bytes string) bool {
	return r.text != "" && strings.IndexByte(bytes, r.text[0]) >= 0
}

func (r *treeReader) pattern() *tree {
	all := &tree{kind: '|', kids: []*tree{r.row()}}
	for r.isAt("|") {
		r.take()
		all.kids = append(all.kids, r.row())
	}
	return all
}

func (r *treeReader) row() *tree {
	row := &tree{kind: 'r'}
	for r.text != "" && !r.isAt("|)") {
		piece := r.atom()
		for r.isAt("*+?{") {
			piece = r.suffix(piece)
		}
		row.kids = append(row.kids, piece)
	}
	return row
}

func (r *treeReader) suffix(x *tree) *tree {
	s := &tree{kind: r.take(), kids: []*tree{x}}
	if s.kind == '{' {
		s.least = int(r.take() - '0')
		s.most = s.least
		if r.take() == ',' {
			s.most = int(r.take() - '0')
			r.take()
		}
	}
	return s
}

func (r *treeReader) one() byte {
	b := r.take()
	if b != '\\' {
		return b
	}
	switch b = r.take(); b {
	case 'n':
		return 10
	case 't':
		return 9
	case 'x':
		n, _ := strconv.ParseUint(r.text[:2], 16, 8)
		r.text = r.text[2:]
		return byte(n)
	}
	return b
}

func (r *treeReader) atom() *tree {
	place := &tree{kind: 'p'}
	switch {
	case r.isAt("("):
		r.take()
		inside := r.pattern()
		r.take()
		return inside
	case r.isAt("."):
		r.take()
		for b := range place.has {
			place.has[b] = b != 10
		}
	case r.isAt("["):
		r.take()
		r.items(place)
	default:
		place.has[r.one()] = true
	}
	return place
}

func (r *treeReader) items(place *tree) {
	not := r.isAt("^")
	if not {
		r.take()
	}
	for !r.isAt("]") {
		low := int(r.one())
		high := low
		if r.isAt("-") {
			r.take()
			high = int(r.one())
		}
		for b := low; b <= high; b++ {
			place.has[b] = true
		}
	}
	r.take()
	for b := range place.has {
		place.has[b] = place.has[b] != not
	}
}

func treeOf(p string) *tree {
	r := treeReader{p}
	return r.pattern()
}

// ends answers, as bits, where in a text the texts may end that x matches and that begin at the bits of from. It follows the table of what matches; counts are not written out.
func (x *tree) ends(text string, from uint64) uint64 {
	inside := func(at int) uint64 { return x.kids[0].ends(text, 1<<at) }
	switch x.kind {
	case 'p':
		return each(from, func(at int) uint64 {
			if at < len(text) && x.has[text[at]] {
				return 1 << (at + 1)
			}
			return 0
		})
	case 'r':
		for _, kid := range x.kids {
			from = kid.ends(text, from)
		}
		return from
	case '|':
		var to uint64
		for _, kid := range x.kids {
			to |= kid.ends(text, from)
		}
		return to
	case '*':
		return many(from, inside)
	case '+':
		return many(each(from, inside), inside)
	case '?':
		return from | each(from, inside)
	}
	var to uint64
	for n := 0; n <= x.most; n++ {
		if n >= x.least {
			to |= from
		}
		behind := each(from, inside)
		if behind == from { // and so it stays
			return to | from
		}
		from = behind
	}
	return to
}

// verdictByWords answers the least rule that matches all of a text of at most 60 bytes.
func verdictByWords(trees []*tree, text string) int {
	for rule, x := range trees {
		if x.ends(text, 1)>>len(text)&1 == 1 {
			return rule
		}
	}
	return none
}

func (x *tree) hasPlace() bool {
	return x.kind == 'p' || (x.kind != '{' || x.most > 0) && slices.ContainsFunc(x.kids, (*tree).hasPlace)
}

// written answers x with its counts written out. What has no place is one empty row, however often it would be written.
func (x *tree) written() *tree {
	if !x.hasPlace() {
		return &tree{kind: 'r'}
	}
	out := &tree{kind: x.kind, has: x.has}
	if x.kind == '{' {
		out.kind = 'r'
		for n := range x.most {
			kid := x.kids[0].written()
			if n >= x.least {
				kid = &tree{kind: '?', kids: []*tree{kid}}
			}
			out.kids = append(out.kids, kid)
		}
		return out
	}
	for _, kid := range x.kids {
		out.kids = append(out.kids, kid.written())
	}
	return out
}

// letters holds points between letters: from a point one goes on to others, or by one letter to the next point. Each place is a letter of its own.
type letters struct {
	on    [][]int
	by    []*tree // nil, if there is none
	ends  []int   // by rule
	first []int
	all   []*tree
}

func (l *letters) point(on ...int) int {
	l.on = append(l.on, on)
	l.by = append(l.by, nil)
	return len(l.on) - 1
}

// lay lays x in front of the point end, and answers the point ahead of it.
func (l *letters) lay(x *tree, end int) int {
	switch x.kind {
	case 'p':
		l.all = append(l.all, x)
		p := l.point(end)
		l.by[p] = x
		return p
	case 'r':
		for i := len(x.kids) - 1; i >= 0; i-- {
			end = l.lay(x.kids[i], end)
		}
		return end
	case '|':
		p := l.point()
		for _, kid := range x.kids {
			first := l.lay(kid, end)
			l.on[p] = append(l.on[p], first)
		}
		return p
	case '?':
		return l.point(end, l.lay(x.kids[0], end))
	}
	back := l.point(end)
	p := l.lay(x.kids[0], back)
	l.on[back] = append(l.on[back], p)
	if x.kind == '*' {
		return back
	}
	return p
}

func lettersOf(trees []*tree) *letters {
	l := &letters{}
	for _, x := range trees {
		end := l.point()
		l.ends = append(l.ends, end)
		l.first = append(l.first, l.lay(x.written(), end))
	}
	return l
}

// reach marks the point p and all to which one goes on from there without a letter.
func (l *letters) reach(points []byte, p int) {
	if points[p] == '1' {
		return
	}
	points[p] = '1'
	if l.by[p] == nil {
		for _, q := range l.on[p] {
			l.reach(points, q)
		}
	}
}

func (l *letters) noPoints() []byte { return []byte(times("0", len(l.on))) }

// read answers the points behind the byte b, read from points.
func (l *letters) read(points string, b int) string {
	behind := l.noPoints()
	for p := range points {
		if points[p] == '1' && l.by[p] != nil && l.by[p].has[b] {
			l.reach(behind, l.on[p][0])
		}
	}
	return string(behind)
}

// nextSet answers the letters and the rules that stand at the points. (From each point one comes to an end: no set is empty.)
func (l *letters) nextSet(points string) string {
	set := []byte(points)
	for p := range set {
		if l.by[p] == nil && !slices.Contains(l.ends, p) {
			set[p] = '0'
		}
	}
	return string(set)
}

func (l *letters) verdict(points string) int {
	return slices.IndexFunc(l.ends, func(end int) bool { return points[end] == '1' })
}

// heads answers of each byte the least one that is in the same letters.
func (l *letters) heads() []int {
	var heads []int
	seen := map[string]int{}
	for b := range 256 {
		key := ""
		for _, x := range l.all {
			key += strconv.FormatBool(x.has[b])
		}
		if _, ok := seen[key]; !ok {
			seen[key] = b
		}
		heads = append(heads, seen[key])
	}
	return heads
}

// readings are the points that are reached by texts, all of them, and by byte where each leads. The last one is that of the dead texts.
type readings struct {
	points []string
	to     [][256]int
	sets   int // how many different next sets there are
}

// readAll answers the readings of all texts; but it gives up above most next sets.
func (l *letters) readAll(most int) readings {
	var r readings
	heads := l.heads()
	start := l.noPoints()
	for _, p := range l.first {
		l.reach(start, p)
	}
	number := map[string]int{string(start): 0}
	sets := map[string]bool{l.nextSet(string(start)): true}
	dead := string(l.noPoints())
	r.points = append(r.points, string(start))
	for i := 0; i < len(r.points) && len(sets) <= most; i++ {
		r.to = append(r.to, [256]int{})
		for b := range 256 {
			if heads[b] < b {
				r.to[i][b] = r.to[i][heads[b]]
				continue
			}
			points := l.read(r.points[i], b)
			n, ok := number[points]
			if !ok && points == dead {
				n = none
			} else if !ok {
				n = len(r.points)
				number[points] = n
				r.points = append(r.points, points)
				sets[l.nextSet(points)] = true
			}
			r.to[i][b] = n
		}
	}
	r.sets = len(sets)
	n := len(r.points)
	r.points = append(r.points, dead)
	r.to = append(r.to, [256]int{})
	for i := range r.to {
		for b, to := range r.to[i] {
			if to == none || i == n {
				r.to[i][b] = n
			}
		}
	}
	return r
}

// unlike answers of each pair of readings whether some text behind both has two verdicts: first the empty text, and then each byte ahead of such a text.
func (l *letters) unlike(r readings) [][]bool {
	n := len(r.points)
	unlike := make([][]bool, n)
	for i := range unlike {
		unlike[i] = make([]bool, n)
	}
	heads := l.heads()
	back := make([][256][]int, n)
	for i := range n {
		for b := range 256 {
			if heads[b] == b {
				back[r.to[i][b]][b] = append(back[r.to[i][b]][b], i)
			}
		}
	}
	var found [][2]int
	mark := func(i int, k int) {
		if !unlike[i][k] {
			unlike[i][k], unlike[k][i] = true, true
			found = append(found, [2]int{i, k})
		}
	}
	for i := range n {
		for k := range i {
			if l.verdict(r.points[i]) != l.verdict(r.points[k]) {
				mark(i, k)
			}
		}
	}
	for len(found) > 0 {
		i, k := found[0][0], found[0][1]
		found = found[1:]
		for b := range 256 {
			for _, x := range back[i][b] {
				for _, y := range back[k][b] {
					mark(x, y)
				}
			}
		}
	}
	return unlike
}

// machineByWords answers what P9 says of patterns that Check lets pass, and how many next sets and states there are.
func machineByWords(patterns []string) (api.Machine, api.Errno, int, int) {
	m := api.Machine{Rules: len(patterns)}
	var trees []*tree
	for _, p := range patterns {
		trees = append(trees, treeOf(p))
	}
	l := lettersOf(trees)
	r := l.readAll(api.MaxSets)
	if r.sets > api.MaxSets {
		return api.Machine{}, api.ErrSets, r.sets, 0
	}
	unlike := l.unlike(r)
	dead := len(r.points) - 1
	states := []int{0} // of each state one of its readings
	stateOf := func(reading int) int {
		return slices.IndexFunc(states, func(x int) bool { return !unlike[x][reading] })
	}
	var rows [][256]int
	for s := 0; s < len(states); s++ {
		var row [256]int
		for b, to := range r.to[states[s]] {
			row[b] = none
			if unlike[to][dead] {
				if stateOf(to) < 0 {
					states = append(states, to)
				}
				row[b] = stateOf(to)
			}
		}
		rows = append(rows, row)
		m.Label = append(m.Label, l.verdict(r.points[states[s]]))
	}
	if len(states) > api.MaxStates {
		return api.Machine{}, api.ErrStates, r.sets, len(states)
	}
	var least []int // of each class its least byte
	for b := range 256 {
		same := func(c int) bool {
			return !slices.ContainsFunc(rows, func(row [256]int) bool { return row[c] != row[b] })
		}
		class := slices.IndexFunc(least, same)
		if class < 0 {
			class = len(least)
			least = append(least, b)
		}
		m.Class = append(m.Class, class)
	}
	for _, row := range rows {
		for _, b := range least {
			m.Next = append(m.Next, row[b])
		}
	}
	return m, api.OK, r.sets, len(states)
}
