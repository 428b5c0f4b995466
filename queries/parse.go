package queries

import "panes/api"

// parser goes over the tokens from the left. Once failed it stands still and
// takes nothing more, so that what reads on need not ask after each step, and
// the token at which it stands is the wrong one.
type parser struct {
	tokens []token
	length int // of the text
	next   int
	failed bool
	query  Query
	many   int // the places of the first faults of their kinds, or none
	twice  int
	arg    int
}

func newParser(tokens []token, length int) *parser {
	return &parser{tokens: tokens, length: length, many: none, twice: none, arg: none}
}

// fault tells the error that is named first, of those found.
func (p *parser) fault() (api.Errno, int) {
	switch {
	case p.failed:
		at := p.place()
		return api.ErrSyntax, at
	case p.many != none:
		return api.ErrMany, p.many
	case p.twice != none:
		return api.ErrTwice, p.twice
	case p.arg != none:
		return api.ErrArg, p.arg
	}
	return api.OK, 0
}

// place tells the place of the next token, or the text's length if there is none.
func (p *parser) place() int {
	if p.next < len(p.tokens) {
		return p.tokens[p.next].at
	}
	return p.length
}

// take goes past the next token, if it is this one.
func (p *parser) take(text string) bool {
	if p.failed || p.next >= len(p.tokens) {
		return false
	}
	if p.tokens[p.next].text != text {
		return false
	}
	p.next++
	return true
}

func (p *parser) want(text string) {
	if !p.take(text) {
		p.failed = true
	}
}

func (p *parser) wantEnd() {
	if p.next < len(p.tokens) {
		p.failed = true
	}
}

func (p *parser) readNumber() int {
	if p.failed || p.next >= len(p.tokens) {
		p.failed = true
		return 0
	}
	t := p.tokens[p.next]
	if !t.number {
		p.failed = true
		return 0
	}
	p.next++
	return worth(t.text)
}

func (p *parser) readCol() Col {
	for c := ColP; c <= ColV; c++ {
		name := c.name()
		if p.take(name) {
			return c
		}
	}
	p.failed = true
	return ColP
}

func (p *parser) readQuery() {
	if p.take("by") {
		p.readBy()
	}
	p.want("order")
	p.readKeys()
	p.want("show")
	p.readFuncs()
	if p.take("top") {
		p.readTop()
	}
	p.wantEnd()
}

func (p *parser) readBy() {
	for more := true; more; more = p.take(",") {
		at := p.place()
		c := p.readCol()
		if hasCol(p.query.By, c) {
			p.noteTwice(at)
		}
		p.query.By = append(p.query.By, c)
	}
}

func (p *parser) readKeys() {
	for more := true; more; more = p.take(",") {
		at := p.place()
		c := p.readCol()
		desc := p.take("desc")
		if hasKey(p.query.Keys, c) {
			p.noteTwice(at)
		}
		p.query.Keys = append(p.query.Keys, Key{Col: c, Desc: desc})
	}
}

func (p *parser) readFuncs() {
	for more := true; more; more = p.take(",") {
		if len(p.query.Funcs) == api.MaxShow {
			p.many = p.place()
		}
		f := p.readFunc()
		p.query.Funcs = append(p.query.Funcs, f)
	}
}

func (p *parser) readTop() {
	p.query.HasTop = true
	p.query.Top = p.readNumber()
	if p.take("from") {
		p.query.From = p.readNumber()
	}
}

func (p *parser) readFunc() Func {
	f := Func{}
	f.Kind = p.readFuncKind()
	switch f.Kind {
	case Number, Rank, Dense:
		return f
	case Tile:
		p.want("(")
		f.Num = p.readTileNumber()
	case Lag, Lead:
		p.want("(")
		f.Col = p.readCol()
		p.want(",")
		f.Num = p.readNumber()
	default:
		p.want("(")
		f.Col = p.readCol()
		p.want(",")
		f.Frame = p.readFrame()
	}
	p.want(")")
	return f
}

func (p *parser) readFuncKind() FuncKind {
	for k := Number; k <= Last; k++ {
		name := k.name()
		if p.take(name) {
			return k
		}
	}
	p.failed = true
	return Number
}

func (p *parser) readTileNumber() int {
	at := p.place()
	n := p.readNumber()
	if n == 0 && p.arg == none {
		p.arg = at
	}
	return n
}

func (p *parser) readFrame() Frame {
	if p.take("all") {
		return Frame{Kind: All}
	}
	if p.take("peers") {
		return Frame{Kind: Peers}
	}
	if p.take("near") {
		n := p.readNumber()
		return Frame{Kind: Near, Num: n}
	}
	from := p.readEdge()
	p.want("to")
	to := p.readEdge()
	return Frame{Kind: Between, From: from, To: to}
}

func (p *parser) readEdge() Edge {
	if p.take("start") {
		return Edge{Kind: Start}
	}
	if p.take("end") {
		return Edge{Kind: End}
	}
	if p.take("here") {
		return Edge{Kind: Here}
	}
	n := p.readNumber()
	if p.take("back") {
		return Edge{Kind: Back, Num: n}
	}
	p.want("on")
	return Edge{Kind: On, Num: n}
}

func (p *parser) noteTwice(at int) {
	if p.twice == none {
		p.twice = at
	}
}

func hasCol(cols []Col, c Col) bool {
	for i := 0; i < len(cols); i++ {
		if cols[i] == c {
			return true
		}
	}
	return false
}

func hasKey(keys []Key, c Col) bool {
	for i := 0; i < len(keys); i++ {
		if keys[i].Col == c {
			return true
		}
	}
	return false
}
