package tables

import (
	"panes/api"
	"panes/rows"
)

// sums adds changes up row by row. Its list has each row once, in the order of
// the rows; on the way to a table a number may be 0 or below.
type sums struct {
	list []api.Change
}

func (s *sums) add(c api.Change) {
	at := s.place(c.Row)
	if at < len(s.list) && s.list[at].Row == c.Row {
		s.list[at].N += c.N
		return
	}
	s.list = append(s.list, c)
	for i := len(s.list) - 1; i > at; i-- {
		s.list[i] = s.list[i-1]
	}
	s.list[at] = c
}

// of tells the number of a row, 0 where it has none.
func (s *sums) of(r api.Row) int {
	at := s.place(r)
	if at < len(s.list) && s.list[at].Row == r {
		return s.list[at].N
	}
	return 0
}

// place tells how many rows of the list come ahead of a row.
func (s *sums) place(r api.Row) int {
	at := 0
	for at < len(s.list) && rows.IsAhead(s.list[at].Row, r) {
		at++
	}
	return at
}

func (s *sums) total() int {
	n := 0
	for i := 0; i < len(s.list); i++ {
		n += s.list[i].N
	}
	return n
}

// table leaves out the rows of which no copy is left.
func (s *sums) table() Table {
	var t Table
	for i := 0; i < len(s.list); i++ {
		if s.list[i].N > 0 {
			t.list = append(t.list, s.list[i])
		}
	}
	return t
}
