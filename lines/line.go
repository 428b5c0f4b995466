package lines

import (
	"panes/api"
	"panes/queries"
	"panes/rows"
)

// line is a part: its copies from the left. Positions count from 1 on, as in
// queries: the copy at the position 1 is copies[0].
type line struct {
	keys   []queries.Key
	copies []api.Row
}

// ofTable lays all copies of a table in the lines of their parts.
func ofTable(q queries.Query, table []api.Change) []line {
	var all []line
	for i := 0; i < len(table); i++ {
		at := placeOfPart(all, q.By, table[i].Row)
		if at == len(all) {
			all = append(all, line{keys: q.Keys})
		}
		for n := 0; n < table[i].N; n++ {
			all[at].insert(table[i].Row)
		}
	}
	return all
}

// placeOfPart tells which line is the part of a row: how many there are, if
// none is.
func placeOfPart(all []line, by []queries.Col, r api.Row) int {
	at := 0
	for at < len(all) && !all[at].isPartOf(by, r) {
		at++
	}
	return at
}

func (l *line) isPartOf(by []queries.Col, r api.Row) bool {
	if len(l.copies) == 0 {
		return false
	}
	for i := 0; i < len(by); i++ {
		if by[i].Of(l.copies[0]) != by[i].Of(r) {
			return false
		}
	}
	return true
}

func (l *line) insert(r api.Row) {
	at := 0
	for at < len(l.copies) && l.isAhead(l.copies[at], r) {
		at++
	}
	l.copies = append(l.copies, r)
	for i := len(l.copies) - 1; i > at; i-- {
		l.copies[i] = l.copies[i-1]
	}
	l.copies[at] = r
}

func (l *line) isAhead(a, b api.Row) bool {
	for i := 0; i < len(l.keys); i++ {
		x := l.keys[i].Col.Of(a)
		y := l.keys[i].Col.Of(b)
		if x != y {
			return (x < y) != l.keys[i].Desc
		}
	}
	// The order of the rows is the same with desc and without.
	return rows.IsAhead(a, b)
}

func (l *line) arePeers(a, b api.Row) bool {
	for i := 0; i < len(l.keys); i++ {
		if l.keys[i].Col.Of(a) != l.keys[i].Col.Of(b) {
			return false
		}
	}
	return true
}

// endsGroup says whether a group of peers ends at a position; so it does at
// both ends of the line and beyond them.
func (l *line) endsGroup(at int) bool {
	if at < 1 || at >= len(l.copies) {
		return true
	}
	return !l.arePeers(l.copies[at-1], l.copies[at])
}

func (l *line) firstPeer(at int) int {
	for !l.endsGroup(at - 1) {
		at--
	}
	return at
}

func (l *line) lastPeer(at int) int {
	for !l.endsGroup(at) {
		at++
	}
	return at
}

// groupsUpTo counts the groups of peers up to a position.
func (l *line) groupsUpTo(at int) int {
	n := 1
	for i := 1; i < at; i++ {
		if l.endsGroup(i) {
			n++
		}
	}
	return n
}
