// Package tables keeps a table: of each row a number of copies.
package tables

import "panes/api"

// Table is a table; the zero Table is empty. Its list has each row of which
// there are copies once, with their number, in the order of the rows. A list
// is never changed once its Table is made, so a Table may be copied.
type Table struct {
	list []api.Change
}

// List tells the table, in a list of the caller's own.
func (t Table) List() []api.Change {
	var list []api.Change
	for i := 0; i < len(t.list); i++ {
		list = append(list, t.list[i])
	}
	return list
}

// After tells the table as it is when all changes of a batch are made, OK and
// 0; or an error with the number of its change.
func (t Table) After(batch []api.Change) (Table, api.Errno, int) {
	e, at := checkBatch(batch)
	if e != api.OK {
		return Table{}, e, at
	}
	s := t.sumsWith(batch)
	for i := 0; i < len(batch); i++ {
		if s.of(batch[i].Row) < 0 {
			return Table{}, api.ErrLess, i
		}
	}
	if s.total() > api.MaxCopies {
		return Table{}, api.ErrFull, 0
	}
	return s.table(), api.OK, 0
}

func (t Table) sumsWith(batch []api.Change) sums {
	var s sums
	for i := 0; i < len(t.list); i++ {
		s.add(t.list[i])
	}
	for i := 0; i < len(batch); i++ {
		s.add(batch[i])
	}
	return s
}
