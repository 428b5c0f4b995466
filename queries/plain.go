package queries

import "strconv"

// Plain tells the plain form of a query.
func (q Query) Plain() string {
	text := ""
	if len(q.By) > 0 {
		text += "by " + colsText(q.By) + " "
	}
	text += "order " + keysText(q.Keys)
	text += " show " + funcsText(q.Funcs)
	if q.HasTop {
		text += " top " + strconv.Itoa(q.Top)
	}
	if q.From > 0 {
		text += " from " + strconv.Itoa(q.From)
	}
	return text
}

func colsText(cols []Col) string {
	text := ""
	for i := 0; i < len(cols); i++ {
		if i > 0 {
			text += ", "
		}
		text += cols[i].name()
	}
	return text
}

func keysText(keys []Key) string {
	text := ""
	for i := 0; i < len(keys); i++ {
		if i > 0 {
			text += ", "
		}
		text += keys[i].Col.name()
		if keys[i].Desc {
			text += " desc"
		}
	}
	return text
}

func funcsText(funcs []Func) string {
	text := ""
	for i := 0; i < len(funcs); i++ {
		if i > 0 {
			text += ", "
		}
		text += funcs[i].text()
	}
	return text
}

func (f Func) text() string {
	text := f.Kind.name()
	switch f.Kind {
	case Number, Rank, Dense:
		return text
	case Tile:
		text += "(" + strconv.Itoa(f.Num)
	case Lag, Lead:
		text += "(" + f.Col.name()
		text += ", " + strconv.Itoa(f.Num)
	default:
		text += "(" + f.Col.name()
		text += ", " + f.Frame.text()
	}
	return text + ")"
}

func (f Frame) text() string {
	switch f.Kind {
	case All:
		return "all"
	case Peers:
		return "peers"
	case Near:
		return "near " + strconv.Itoa(f.Num)
	}
	text := f.From.text()
	text += " to "
	text += f.To.text()
	return text
}

func (e Edge) text() string {
	switch e.Kind {
	case Start:
		return "start"
	case End:
		return "end"
	case Here:
		return "here"
	case Back:
		return strconv.Itoa(e.Num) + " back"
	}
	return strconv.Itoa(e.Num) + " on"
}

func (c Col) name() string {
	switch c {
	case ColP:
		return "p"
	case ColK:
		return "k"
	}
	return "v"
}

func (k FuncKind) name() string {
	switch k {
	case Number:
		return "number"
	case Rank:
		return "rank"
	case Dense:
		return "dense"
	case Tile:
		return "tile"
	case Lag:
		return "lag"
	case Lead:
		return "lead"
	case Count:
		return "count"
	case Sum:
		return "sum"
	case Min:
		return "min"
	case Max:
		return "max"
	case First:
		return "first"
	}
	return "last"
}
