// Package outs adds out rows up into a list of out rows.
package outs

import (
	"panes/api"
	"panes/rows"
)

// Sums adds out rows up; the zero Sums has none. Its list has each out row
// once, in their order; on the way a number may be 0.
type Sums struct {
	list []api.Out
}

// Add adds the copies of all out rows of a list.
func (s *Sums) Add(list []api.Out) {
	for i := 0; i < len(list); i++ {
		s.add(list[i], list[i].N)
	}
}

// Take takes the copies of all out rows of a list away.
func (s *Sums) Take(list []api.Out) {
	for i := 0; i < len(list); i++ {
		s.add(list[i], -list[i].N)
	}
}

// List tells the out rows of which the number is not 0, in lists of the
// caller's own.
func (s *Sums) List() []api.Out {
	var list []api.Out
	for i := 0; i < len(s.list); i++ {
		if s.list[i].N != 0 {
			o := withNumber(s.list[i], s.list[i].N)
			list = append(list, o)
		}
	}
	return list
}

// add adds n copies of an out row, whatever number it has itself.
func (s *Sums) add(o api.Out, n int) {
	at := 0
	for at < len(s.list) && compare(s.list[at], o) < 0 {
		at++
	}
	if at < len(s.list) && compare(s.list[at], o) == 0 {
		s.list[at].N += n
		return
	}
	own := withNumber(o, n)
	s.list = append(s.list, own)
	for i := len(s.list) - 1; i > at; i-- {
		s.list[i] = s.list[i-1]
	}
	s.list[at] = own
}

// withNumber makes an out row with values of its own memory, so that no two
// out rows share them.
func withNumber(o api.Out, n int) api.Out {
	own := api.Out{Row: o.Row, N: n}
	for i := 0; i < len(o.Vals); i++ {
		own.Vals = append(own.Vals, o.Vals[i])
	}
	return own
}

// compare is below 0 where a comes ahead of b, 0 where they are alike.
func compare(a, b api.Out) int {
	if rows.IsAhead(a.Row, b.Row) {
		return -1
	}
	if rows.IsAhead(b.Row, a.Row) {
		return 1
	}
	for i := 0; i < len(a.Vals) && i < len(b.Vals); i++ {
		if a.Vals[i] != b.Vals[i] {
			return compareValues(a.Vals[i], b.Vals[i])
		}
	}
	return len(a.Vals) - len(b.Vals)
}

// compareValues orders two values that differ: none comes ahead of any number.
func compareValues(a, b api.Value) int {
	if a.Ok != b.Ok {
		if b.Ok {
			return -1
		}
		return 1
	}
	if a.N < b.N {
		return -1
	}
	return 1
}
