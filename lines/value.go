package lines

import (
	"panes/api"
	"panes/queries"
)

func some(n int) api.Value {
	return api.Value{Ok: true, N: n}
}

func none() api.Value {
	return api.Value{}
}

// value tells what a function is worth for the copy at a position.
func (l *line) value(f queries.Func, at int) api.Value {
	switch f.Kind {
	case queries.Number:
		return some(at)
	case queries.Rank:
		return some(l.firstPeer(at))
	case queries.Dense:
		return some(l.groupsUpTo(at))
	case queries.Tile:
		return some(tileOf(at, len(l.copies), f.Num))
	case queries.Lag:
		return l.columnAt(f.Col, at-f.Num)
	case queries.Lead:
		return l.columnAt(f.Col, at+f.Num)
	}
	from, to := l.frame(f.Frame, at)
	return l.over(f, from, to)
}

// tileOf tells in which of so many tiles a position is, in a line of n copies.
func tileOf(at, n, tiles int) int {
	if n < 0 || tiles < 1 {
		return 0
	}
	size := n / tiles
	longer := n % tiles
	inLonger := longer * (size + 1)
	if size == 0 || at <= inLonger {
		return (at-1)/(size+1) + 1
	}
	return longer + (at-1-inLonger)/size + 1
}

func (l *line) columnAt(c queries.Col, at int) api.Value {
	if !l.has(at) {
		return none()
	}
	return some(c.Of(l.copies[at-1]))
}

// over tells what a function is worth over the copies at the positions of a
// frame.
func (l *line) over(f queries.Func, from, to int) api.Value {
	if from > to {
		if f.Kind == queries.Count {
			return some(0)
		}
		return none()
	}
	switch f.Kind {
	case queries.Count:
		return some(to - from + 1)
	case queries.Sum:
		return some(l.sum(f.Col, from, to))
	case queries.Min:
		return some(l.least(f.Col, from, to))
	case queries.Max:
		return some(l.greatest(f.Col, from, to))
	case queries.First:
		return l.columnAt(f.Col, from)
	}
	return l.columnAt(f.Col, to)
}

func (l *line) sum(c queries.Col, from, to int) int {
	n := 0
	for at := from; at <= to; at++ {
		n += l.columnAt(c, at).N
	}
	return n
}

func (l *line) least(c queries.Col, from, to int) int {
	n := l.columnAt(c, from).N
	for at := from; at <= to; at++ {
		x := l.columnAt(c, at).N
		if x < n {
			n = x
		}
	}
	return n
}

func (l *line) greatest(c queries.Col, from, to int) int {
	n := l.columnAt(c, from).N
	for at := from; at <= to; at++ {
		x := l.columnAt(c, at).N
		if x > n {
			n = x
		}
	}
	return n
}
