package panes_test

import (
	"cmp"
	"fmt"
	"math/rand"
	"slices"
	"strings"
	"testing"

	"panes/api"
	"panes/panes"
)

// drawnEdge: back is how far it stands ahead of the copy, unless it is the start or the end of the line.
type drawnEdge struct {
	text string
	back int
}

// drawnFunc: col is a number of a column, num and the edges are those that its name or its frame has.
type drawnFunc struct {
	text, name, frame string
	col, num          int
	from, to          drawnEdge
}

// drawn is a query, as the model reads it, with its text.
type drawn struct {
	text   string
	by     []int
	keys   []int
	desc   []bool
	funcs  []drawnFunc
	hasTop bool
	top    int
	from   int
}

var colNames = []string{"p", "k", "v"}

func column(r api.Row, c int) int {
	return []int{r.P, r.K, r.V}[c]
}

func someNumber(r *rand.Rand) int {
	return []int{0, 1, 1, 2, 2, 3, 5, 9, 41, 99}[r.Intn(10)]
}

func someEdge(r *rand.Rand) drawnEdge {
	n := someNumber(r)
	return []drawnEdge{
		{"start", 0}, {"end", 0}, {"here", 0},
		{fmt.Sprintf("%d back", n), n}, {fmt.Sprintf("%d on", n), -n},
	}[r.Intn(5)]
}

func someFrame(r *rand.Rand, f drawnFunc) (drawnFunc, string) {
	switch r.Intn(5) {
	case 0:
		f.frame = "all"
		return f, "all"
	case 1:
		f.frame = "peers"
		return f, "peers"
	case 2:
		f.frame, f.num = "near", someNumber(r)
		return f, fmt.Sprintf("near %d", f.num)
	}
	f.frame, f.from, f.to = "between", someEdge(r), someEdge(r)
	return f, f.from.text + " to " + f.to.text
}

func someFunc(r *rand.Rand) drawnFunc {
	f := drawnFunc{col: r.Intn(3)}
	f.name = strings.Fields("number rank dense tile lag lead count sum min max first last count sum min max first last")[r.Intn(18)]
	switch f.name {
	case "number", "rank", "dense":
		f.text = f.name
	case "tile":
		f.num = 1 + someNumber(r)%98
		f.text = fmt.Sprintf("tile(%d)", f.num)
	case "lag", "lead":
		f.num = someNumber(r)
		f.text = fmt.Sprintf("%s(%s, %d)", f.name, colNames[f.col], f.num)
	default:
		frame := ""
		f, frame = someFrame(r, f)
		f.text = fmt.Sprintf("%s(%s, %s)", f.name, colNames[f.col], frame)
	}
	return f
}

func someQuery(r *rand.Rand) drawn {
	q := drawn{by: r.Perm(3)[:r.Intn(3)], keys: r.Perm(3)[:1+r.Intn(3)]}
	by, keys, funcs := []string{}, []string{}, []string{}
	for _, c := range q.by {
		by = append(by, colNames[c])
	}
	for _, c := range q.keys {
		q.desc = append(q.desc, r.Intn(2) == 0)
		keys = append(keys, colNames[c]+map[bool]string{true: " desc"}[q.desc[len(q.desc)-1]])
	}
	for range 1 + r.Intn(api.MaxShow) {
		q.funcs = append(q.funcs, someFunc(r))
		funcs = append(funcs, q.funcs[len(q.funcs)-1].text)
	}
	if len(by) > 0 {
		q.text = "by " + strings.Join(by, ", ") + " "
	}
	q.text += "order " + strings.Join(keys, ", ") + " show " + strings.Join(funcs, ", ")
	if r.Intn(3) == 0 {
		q.hasTop, q.top, q.from = true, someNumber(r), []int{0, 0, 1, 3, 40}[r.Intn(5)]
		q.text += fmt.Sprintf(" top %d from %d", q.top, q.from)
	}
	return q
}

func byRows(a, b api.Row) int {
	return cmp.Or(cmp.Compare(a.P, b.P), cmp.Compare(a.K, b.K), cmp.Compare(a.V, b.V))
}

// byKeys is 0 where two rows are peers.
func (q drawn) byKeys(a, b api.Row) int {
	for i, c := range q.keys {
		if n := cmp.Compare(column(a, c), column(b, c)); n != 0 {
			return n * map[bool]int{true: -1, false: 1}[q.desc[i]]
		}
	}
	return 0
}

func (q drawn) samePart(a, b api.Row) bool {
	for _, c := range q.by {
		if column(a, c) != column(b, c) {
			return false
		}
	}
	return true
}

// line tells the copies of the part of a row, from the left.
func (q drawn) line(m model, of api.Row) []api.Row {
	var line []api.Row
	for _, c := range m.table() {
		if q.samePart(c.Row, of) {
			line = append(line, slices.Repeat([]api.Row{c.Row}, c.N)...)
		}
	}
	slices.SortFunc(line, func(a, b api.Row) int { return cmp.Or(q.byKeys(a, b), byRows(a, b)) })
	return line
}

func (e drawnEdge) place(i, n int) int {
	switch e.text {
	case "start":
		return 1
	case "end":
		return n
	}
	return i - e.back
}

func (q drawn) inFrame(f drawnFunc, line []api.Row, i, j int) bool {
	a, b := line[i-1], line[j-1]
	switch f.frame {
	case "all":
		return true
	case "peers":
		return q.byKeys(b, a) <= 0
	case "near":
		gap := column(a, q.keys[0]) - column(b, q.keys[0])
		return max(gap, -gap) <= f.num
	}
	return f.from.place(i, len(line)) <= j && j <= f.to.place(i, len(line))
}

// tiles tells the tile of each copy of a line, laid out from the left.
func tiles(n, m int) []int {
	var laid []int
	for tile := 1; tile <= m; tile++ {
		length := n / m
		if tile <= n%m {
			length++
		}
		laid = append(laid, slices.Repeat([]int{tile}, length)...)
	}
	return laid
}

func columnAt(f drawnFunc, line []api.Row, j int) int {
	if j < 1 || j > len(line) {
		return none
	}
	return column(line[j-1], f.col)
}

// worth tells what a function is worth at a position, by the document's words.
func (q drawn) worth(f drawnFunc, line []api.Row, i int) int {
	isPeer := func(r api.Row) bool { return q.byKeys(r, line[i-1]) == 0 }
	switch f.name {
	case "number":
		return i
	case "rank":
		return 1 + slices.IndexFunc(line, isPeer)
	case "dense":
		return len(slices.CompactFunc(slices.Clone(line[:i]), func(a, b api.Row) bool { return q.byKeys(a, b) == 0 }))
	case "tile":
		return tiles(len(line), f.num)[i-1]
	case "lag":
		return columnAt(f, line, i-f.num)
	case "lead":
		return columnAt(f, line, i+f.num)
	}
	positions, values := "", []int{}
	for j := range line {
		values = append(values, column(line[j], f.col))
		if q.inFrame(f, line, i, j+1) {
			positions += string(rune('1' + j))
		}
	}
	return over(f.name, positions, values)
}

func byOuts(a, b api.Out) int {
	return cmp.Or(byRows(a.Row, b.Row), slices.CompareFunc(a.Vals, b.Vals, func(x, y api.Value) int {
		if x.Ok != y.Ok {
			return map[bool]int{true: 1, false: -1}[x.Ok]
		}
		return cmp.Compare(x.N, y.N)
	}))
}

// addUp makes a list of out rows of any ones.
func addUp(outs []api.Out) []api.Out {
	sorted := slices.Clone(outs)
	slices.SortFunc(sorted, byOuts)
	var list []api.Out
	for _, o := range sorted {
		if len(list) > 0 && byOuts(list[len(list)-1], o) == 0 {
			list[len(list)-1].N += o.N
		} else {
			list = append(list, o)
		}
	}
	return slices.DeleteFunc(list, func(o api.Out) bool { return o.N == 0 })
}

// view tells what the query shows of a table, by the document's words.
func (q drawn) view(m model) []api.Out {
	var outs []api.Out
	table := m.table()
	for k, c := range table {
		if slices.ContainsFunc(table[:k], func(d api.Change) bool { return q.samePart(c.Row, d.Row) }) {
			continue // the part has been shown
		}
		line := q.line(m, c.Row)
		for i, row := range line {
			if q.hasTop && (i < q.from || i >= q.from+q.top) {
				continue
			}
			o := api.Out{Row: row, N: 1}
			for _, f := range q.funcs {
				o.Vals = append(o.Vals, value(q.worth(f, line, i+1)))
			}
			outs = append(outs, o)
		}
	}
	return addUp(outs)
}

func turnedOuts(outs []api.Out) []api.Out {
	turned := slices.Clone(outs)
	for i := range turned {
		turned[i].N = -turned[i].N
	}
	return turned
}

func turned(batch []api.Change) []api.Change {
	made := slices.Clone(batch)
	for i := range made {
		made[i].N = -made[i].N
	}
	return made
}

// someSmall has few rows, so that there are many ties and copies.
func someSmall(r *rand.Rand, m model) []api.Change {
	batch := []api.Change{}
	for range r.Intn(6) {
		batch = append(batch, change(r.Intn(2), r.Intn(4)-2, r.Intn(4), 1+r.Intn(2)))
	}
	for _, c := range m.table() {
		if r.Intn(6) == 0 {
			batch = append(batch, change(c.Row.P, c.Row.K, c.Row.V, -1-r.Intn(c.N)))
		}
	}
	r.Shuffle(len(batch), func(i, j int) { batch[i], batch[j] = batch[j], batch[i] })
	return batch
}

// Drawn queries and batches: what Apply and Rows tell is what the document's words tell of the tables.
func TestViewLikeModel(t *testing.T) {
	r := rand.New(rand.NewSource(3))
	made, refused := 0, 0
	for range 3000 {
		q, m := someQuery(r), model{}
		v := newView(t, q.text)
		rows := q.view(m)
		for range 8 {
			batch := someSmall(r, m)
			if r.Intn(3) == 0 {
				batch = someBatch(r, m)
			}
			next, e, at := m.after(batch)
			behind := q.view(next)
			want := addUp(slices.Concat(behind, turnedOuts(rows)))
			if e != api.OK {
				want = nil
				refused++
			} else {
				made++
			}
			got, gotE, gotAt := v.Apply(batch)
			if gotE != e || gotAt != at || !sameOuts(got, want) {
				t.Fatalf("%s: Apply(%v) on %v = %v, %d, %d, want %v, %d, %d", q.text, batch, m.table(), got, gotE, gotAt, want, e, at)
			}
			m, rows = next, behind
			if got := v.Rows(); !sameOuts(got, rows) {
				t.Fatalf("%s: Rows() = %v of %v, want %v", q.text, got, m.table(), rows)
			}
		}
	}
	if made < 10000 || refused < 1000 {
		t.Errorf("%d batches are made, %d refused", made, refused)
	}
}

// wantOutList sees to it that a list is one of out rows: in their order, no two alike, no N 0 or below the least.
func wantOutList(t *testing.T, query string, list []api.Out, least int) {
	t.Helper()
	for i, o := range list {
		if o.N == 0 || o.N < least || i > 0 && byOuts(list[i-1], o) >= 0 {
			t.Fatalf("%s: no list of out rows: %v", query, list)
		}
	}
}

// drawnView has a view with its query and its table, and all that Apply told since New.
func drawnView(t *testing.T, r *rand.Rand) (drawn, *panes.View, model, []api.Out) {
	q, m := someQuery(r), model{}
	v := newView(t, q.text)
	all := []api.Out{}
	for range 1 + r.Intn(6) {
		batch := someSmall(r, m)
		next, e, _ := m.after(batch)
		outs, gotE, _ := v.Apply(batch)
		if gotE != e {
			t.Fatalf("%s: Apply(%v) = %d, want %d", q.text, batch, gotE, e)
		}
		wantOutList(t, q.text, outs, -api.MaxCopies)
		all = append(all, outs...)
		m = next
	}
	return q, v, m, all
}

// P8: what Apply has told since New, added up, is what Rows tells.
func TestToldAddedUpIsRows(t *testing.T) {
	r := rand.New(rand.NewSource(4))
	for range 1000 {
		q, v, _, all := drawnView(t, r)
		rows := v.Rows()
		wantOutList(t, q.text, rows, 1)
		if got := addUp(all); !sameOuts(got, rows) {
			t.Fatalf("%s: told in all %v, Rows() = %v", q.text, got, rows)
		}
	}
}

// P8: it does not matter in which order changes stand, nor how a table came about.
func TestHowATableCameAbout(t *testing.T) {
	r := rand.New(rand.NewSource(5))
	for range 1000 {
		q, v, m, _ := drawnView(t, r)
		fresh := newView(t, q.text)
		table := m.table()
		r.Shuffle(len(table), func(i, j int) { table[i], table[j] = table[j], table[i] })
		wantTold(t, fresh, table, v.Rows()...)
		wantRows(t, fresh, v.Rows()...)
		wantTable(t, fresh, v.Table()...)
		batch := someSmall(r, m)
		want, e, _ := v.Apply(batch)
		if e != api.OK {
			continue
		}
		r.Shuffle(len(batch), func(i, j int) { batch[i], batch[j] = batch[j], batch[i] })
		wantTold(t, fresh, batch, want...)
		wantRows(t, fresh, v.Rows()...)
	}
}

// P8: a batch and the same one turned leave the view as it was, and their answers are each other's.
func TestBatchAndTurned(t *testing.T) {
	r := rand.New(rand.NewSource(6))
	for range 1000 {
		_, v, m, _ := drawnView(t, r)
		rows, table := v.Rows(), v.Table()
		batch := someSmall(r, m)
		outs, e, _ := v.Apply(batch)
		if e != api.OK {
			continue
		}
		wantTold(t, v, turned(batch), turnedOuts(outs)...)
		wantRows(t, v, rows...)
		wantTable(t, v, table...)
	}
}

// P8: where there is by, rows of other parts change nothing in a part.
func TestOtherParts(t *testing.T) {
	r := rand.New(rand.NewSource(7))
	seen := 0
	for range 2000 {
		q, v, m, _ := drawnView(t, r)
		batch := someSmall(r, m)
		outs, e, _ := v.Apply(batch)
		if len(q.by) == 0 || e != api.OK {
			continue
		}
		seen++
		for _, o := range outs {
			if !slices.ContainsFunc(batch, func(c api.Change) bool { return q.samePart(c.Row, o.Row) }) {
				t.Fatalf("%s: Apply(%v) on %v tells %v", q.text, batch, m.table(), outs)
			}
		}
		// The part alone shows what it shows among others.
		for _, c := range v.Table() {
			inPart := func(r api.Row) bool { return q.samePart(c.Row, r) }
			alone := newView(t, q.text)
			told(t, alone, slices.DeleteFunc(v.Table(), func(d api.Change) bool { return !inPart(d.Row) })...)
			wantRows(t, alone, slices.DeleteFunc(v.Rows(), func(o api.Out) bool { return !inPart(o.Row) })...)
		}
	}
	if seen < 500 {
		t.Errorf("only %d batches with parts", seen)
	}
}
