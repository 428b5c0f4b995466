// Package queries reads the text of a query and tells it in its plain form.
package queries

import "panes/api"

// Query is a query that keeps to the grammar and the bounds. By is empty
// where there is no `by`; Top and From are 0 where there is no `top`.
type Query struct {
	By     []Col
	Keys   []Key
	Funcs  []Func
	HasTop bool
	Top    int
	From   int
}

// Col is a column of a row.
type Col int

const (
	ColP Col = iota
	ColK
	ColV
)

// Of tells the column of a row.
func (c Col) Of(r api.Row) int {
	switch c {
	case ColP:
		return r.P
	case ColK:
		return r.K
	}
	return r.V
}

// Key is a column by which a line is ordered.
type Key struct {
	Col  Col
	Desc bool
}

// FuncKind says which function a Func is.
type FuncKind int

const (
	Number FuncKind = iota
	Rank
	Dense
	Tile
	Lag
	Lead
	Count
	Sum
	Min
	Max
	First
	Last
)

// Func is a function with what stands in its brackets: Num is that of Tile,
// Lag and Lead, Col of all from Lag on, Frame of all from Count on.
type Func struct {
	Kind  FuncKind
	Col   Col
	Num   int
	Frame Frame
}

// FrameKind says how a Frame is told.
type FrameKind int

const (
	All FrameKind = iota
	Peers
	Near
	Between
)

// Frame is a frame of copies: Num is that of Near, From and To are those of
// Between.
type Frame struct {
	Kind FrameKind
	Num  int
	From Edge
	To   Edge
}

// EdgeKind says how an Edge is told.
type EdgeKind int

const (
	Start EdgeKind = iota
	End
	Here
	Back
	On
)

// Edge is an end of a frame: Num is that of Back and On.
type Edge struct {
	Kind EdgeKind
	Num  int
}

// Read reads the text of a query: the query, OK and 0, or an error with its
// place.
func Read(text string) (Query, api.Errno, int) {
	if len(text) > api.MaxText {
		return Query{}, api.ErrLong, 0
	}
	tokens, bad := split(text)
	if bad != none {
		return Query{}, api.ErrToken, bad
	}
	p := newParser(tokens, len(text))
	p.readQuery()
	e, at := p.fault()
	if e != api.OK {
		return Query{}, e, at
	}
	return p.query, api.OK, 0
}
