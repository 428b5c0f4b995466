package lines

import "panes/queries"

// frame tells the first and the last position of the frame of the copy at a
// position; where no copy is in it, the last one is below the first.
func (l *line) frame(f queries.Frame, at int) (int, int) {
	switch f.Kind {
	case queries.All:
		return 1, len(l.copies)
	case queries.Peers:
		return 1, l.lastPeer(at)
	case queries.Near:
		return l.near(f.Num, at)
	}
	from := l.edge(f.From, at)
	to := l.edge(f.To, at)
	return l.cut(from, to)
}

func (l *line) edge(e queries.Edge, at int) int {
	switch e.Kind {
	case queries.Start:
		return 1
	case queries.End:
		return len(l.copies)
	case queries.Back:
		return at - e.Num
	case queries.On:
		return at + e.Num
	}
	return at
}

// cut leaves out the positions that there are not.
func (l *line) cut(from, to int) (int, int) {
	if from < 1 {
		from = 1
	}
	if to > len(l.copies) {
		to = len(l.copies)
	}
	return from, to
}

// near goes out from a position to both sides: the line is ordered by the
// first key, so the copies that are near enough stand side by side.
func (l *line) near(most, at int) (int, int) {
	from := at
	for l.isNear(from-1, at, most) {
		from--
	}
	to := at
	for l.isNear(to+1, at, most) {
		to++
	}
	return from, to
}

// isNear says whether there are copies at both positions whose values in the
// first key's column differ by at most so much.
func (l *line) isNear(a, b, most int) bool {
	if !l.has(a) || !l.has(b) || len(l.keys) == 0 {
		return false
	}
	c := l.keys[0].Col
	gap := c.Of(l.copies[a-1]) - c.Of(l.copies[b-1])
	return gap <= most && -gap <= most
}

func (l *line) has(at int) bool {
	return at >= 1 && at <= len(l.copies)
}
