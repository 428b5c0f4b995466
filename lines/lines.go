// Package lines lays the copies of a table in lines, and tells what a query
// shows of each copy there.
package lines

import (
	"panes/api"
	"panes/queries"
)

// Outs tells what a query shows of a table: an out row for each copy that is
// shown, from line to line; out rows that are alike are not added up yet.
func Outs(q queries.Query, table []api.Change) []api.Out {
	var list []api.Out
	all := ofTable(q, table)
	for i := 0; i < len(all); i++ {
		from, to := all[i].shown(q)
		for at := from; at <= to; at++ {
			o := all[i].out(q.Funcs, at)
			list = append(list, o)
		}
	}
	return list
}

// shown tells the first and the last position that is shown.
func (l *line) shown(q queries.Query) (int, int) {
	if !q.HasTop {
		return 1, len(l.copies)
	}
	return l.cut(q.From+1, q.From+q.Top)
}

func (l *line) out(funcs []queries.Func, at int) api.Out {
	o := api.Out{Row: l.copies[at-1], N: 1}
	for i := 0; i < len(funcs); i++ {
		x := l.value(funcs[i], at)
		o.Vals = append(o.Vals, x)
	}
	return o
}
