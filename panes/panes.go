// Package panes: views of a table, each row beside the rows around it: see DOC.md.
package panes

import (
	"panes/api"
	"panes/lines"
	"panes/outs"
	"panes/queries"
	"panes/tables"
)

// View is a table with a query over it.
type View struct {
	query queries.Query
	table tables.Table
}

// Plan tells a query in its plain form (P3).
func Plan(query string) (string, api.Errno, int) {
	q, e, at := queries.Read(query)
	if e != api.OK {
		return "", e, at
	}
	return q.Plain(), api.OK, 0
}

// New makes a view of an empty table (P4).
func New(query string) (*View, api.Errno, int) {
	q, e, at := queries.Read(query)
	if e != api.OK {
		return nil, e, at
	}
	return &View{query: q}, api.OK, 0
}

// Apply changes the table, and tells what changes in the view (P5, P6).
func (v *View) Apply(batch []api.Change) ([]api.Out, api.Errno, int) {
	after, e, at := v.table.After(batch)
	if e != api.OK {
		return nil, e, at
	}
	more := v.shown(after)
	fewer := v.shown(v.table)
	v.table = after
	var told outs.Sums
	told.Add(more)
	told.Take(fewer)
	return told.List(), api.OK, 0
}

// Rows tells the view (P7).
func (v *View) Rows() []api.Out {
	list := v.shown(v.table)
	var told outs.Sums
	told.Add(list)
	return told.List()
}

// Table tells the table (P7).
func (v *View) Table() []api.Change { return v.table.List() }

// shown tells an out row for each copy of a table that the query shows.
func (v *View) shown(t tables.Table) []api.Out {
	list := t.List()
	return lines.Outs(v.query, list)
}
