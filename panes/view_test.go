package panes_test

import (
	"fmt"
	"slices"
	"strings"
	"testing"

	"panes/api"
	"panes/panes"
)

// none stands for a value that is none, where values are told as numbers.
const none = -999999

func value(n int) api.Value {
	if n == none {
		return api.Value{}
	}
	return api.Value{Ok: true, N: n}
}

func out(p, k, v, n int, vals ...int) api.Out {
	o := api.Out{Row: api.Row{P: p, K: k, V: v}, N: n}
	for _, x := range vals {
		o.Vals = append(o.Vals, value(x))
	}
	return o
}

func sameOut(a, b api.Out) bool {
	return a.Row == b.Row && a.N == b.N && slices.Equal(a.Vals, b.Vals)
}

func sameOuts(a, b []api.Out) bool {
	return slices.EqualFunc(a, b, sameOut)
}

func wantRows(t *testing.T, v *panes.View, want ...api.Out) {
	t.Helper()
	if got := v.Rows(); !sameOuts(got, want) {
		t.Errorf("Rows() = %v, want %v", got, want)
	}
}

func told(t *testing.T, v *panes.View, batch ...api.Change) []api.Out {
	t.Helper()
	outs, e, at := v.Apply(batch)
	if e != api.OK || at != 0 {
		t.Fatalf("Apply(%v) = %d, %d, want 0, 0", batch, e, at)
	}
	return outs
}

func wantTold(t *testing.T, v *panes.View, batch []api.Change, want ...api.Out) {
	t.Helper()
	if got := told(t, v, batch...); !sameOuts(got, want) {
		t.Errorf("Apply(%v) tells %v, want %v", batch, got, want)
	}
}

// wantView sees to it that a query shows just this of a table, by Apply and by Rows.
func wantView(t *testing.T, query string, table []api.Change, want ...api.Out) {
	t.Helper()
	v := newView(t, query)
	wantRows(t, v)
	if got := told(t, v, table...); !sameOuts(got, want) {
		t.Errorf("%s: Apply(%v) tells %v, want %v", query, table, got, want)
	}
	if got := v.Rows(); !sameOuts(got, want) {
		t.Errorf("%s: Rows() = %v of %v, want %v", query, got, table, want)
	}
}

func TestViewExamples(t *testing.T) {
	v := newView(t, "order k show number, rank, dense")
	wantTold(t, v, []api.Change{change(0, 5, 1, 1), change(0, 5, 2, 2), change(0, 7, 0, 1)},
		out(0, 5, 1, 1, 1, 1, 1), out(0, 5, 2, 1, 2, 1, 1), out(0, 5, 2, 1, 3, 1, 1), out(0, 7, 0, 1, 4, 4, 2))
	wantTold(t, v, []api.Change{change(0, 5, 1, -1)},
		out(0, 5, 1, -1, 1, 1, 1), out(0, 5, 2, 1, 1, 1, 1), out(0, 5, 2, -1, 3, 1, 1),
		out(0, 7, 0, 1, 3, 3, 2), out(0, 7, 0, -1, 4, 4, 2))
	wantRows(t, v, out(0, 5, 2, 1, 1, 1, 1), out(0, 5, 2, 1, 2, 1, 1), out(0, 7, 0, 1, 3, 3, 2))
	w := newView(t, "by p order v desc show rank top 1")
	wantTold(t, w, []api.Change{change(1, 0, 5, 1), change(1, 0, 9, 2)}, out(1, 0, 9, 1, 1))
	wantTold(t, w, []api.Change{change(1, 0, 9, -1)})
	wantTold(t, w, []api.Change{change(1, 0, 9, -1)}, out(1, 0, 5, 1, 1), out(1, 0, 9, -1, 1))
}

// worth tells what a function is worth along the one line of a table; number tells where each copy stands.
func worth(t *testing.T, order, function string, table []api.Change) []api.Value {
	t.Helper()
	v := newView(t, order+" show number, "+function)
	told(t, v, table...)
	list := v.Rows()
	vals := make([]api.Value, len(list))
	seen := make([]bool, len(list))
	for _, o := range list {
		i := o.Vals[0].N - 1
		if len(o.Vals) != 2 || o.N != 1 || i < 0 || i >= len(list) || seen[i] {
			t.Fatalf("%s show number, %s: %v", order, function, list)
		}
		vals[i], seen[i] = o.Vals[1], true
	}
	return vals
}

// three has one line with k 1, 2, 4; ties has, ordered by k: v -3, -3, 7, 7 with 5; 0 with 6; 1, 1 with 9.
var (
	three = []api.Change{change(0, 4, 40, 1), change(0, 1, 10, 1), change(0, 2, 20, 1)}
	ties  = []api.Change{change(5, 9, 1, 2), change(3, 5, 7, 1), change(1, 5, -3, 2), change(4, 6, 0, 1), change(2, 5, 7, 1)}
)

func wantWorth(t *testing.T, order string, table []api.Change, function string, want ...int) {
	t.Helper()
	vals := []api.Value{}
	for _, n := range want {
		vals = append(vals, value(n))
	}
	if got := worth(t, order, function, table); !slices.Equal(got, vals) {
		t.Errorf("%s show %s is worth %v, want %v", order, function, got, vals)
	}
}

func TestFuncsWithoutFrame(t *testing.T) {
	for _, c := range []struct {
		function    string
		three, ties []int
	}{
		{"number", []int{1, 2, 3}, []int{1, 2, 3, 4, 5, 6, 7}},
		{"rank", []int{1, 2, 3}, []int{1, 1, 1, 1, 5, 6, 6}},
		{"dense", []int{1, 2, 3}, []int{1, 1, 1, 1, 2, 3, 3}},
		{"tile(1)", []int{1, 1, 1}, []int{1, 1, 1, 1, 1, 1, 1}},
		{"tile(2)", []int{1, 1, 2}, []int{1, 1, 1, 1, 2, 2, 2}},
		{"tile(3)", []int{1, 2, 3}, []int{1, 1, 1, 2, 2, 3, 3}},
		{"tile(4)", []int{1, 2, 3}, []int{1, 1, 2, 2, 3, 3, 4}},
		{"tile(5)", []int{1, 2, 3}, []int{1, 1, 2, 2, 3, 4, 5}},
		{"tile(7)", []int{1, 2, 3}, []int{1, 2, 3, 4, 5, 6, 7}},
		{"tile(99)", []int{1, 2, 3}, []int{1, 2, 3, 4, 5, 6, 7}},
		{"lag(v, 0)", []int{10, 20, 40}, []int{-3, -3, 7, 7, 0, 1, 1}},
		{"lag(v, 1)", []int{none, 10, 20}, []int{none, -3, -3, 7, 7, 0, 1}},
		{"lag(k, 2)", []int{none, none, 1}, []int{none, none, 5, 5, 5, 5, 6}},
		{"lag(p, 3)", []int{none, none, none}, []int{none, none, none, 1, 1, 2, 3}},
		{"lag(v, 99)", []int{none, none, none}, []int{none, none, none, none, none, none, none}},
		{"lead(v, 0)", []int{10, 20, 40}, []int{-3, -3, 7, 7, 0, 1, 1}},
		{"lead(p, 1)", []int{0, 0, none}, []int{1, 2, 3, 4, 5, 5, none}},
		{"lead(k, 2)", []int{4, none, none}, []int{5, 5, 6, 9, 9, none, none}},
		{"lead(v, 6)", []int{none, none, none}, []int{1, none, none, none, none, none, none}},
		{"lead(v, 99)", []int{none, none, none}, []int{none, none, none, none, none, none, none}},
	} {
		wantWorth(t, "order k", three, c.function, c.three...)
		wantWorth(t, "order k", ties, c.function, c.ties...)
	}
}

// frames of the lines three and ties: the positions that are in the frame of each copy, as digits.
var frames = []struct {
	frame       string
	three, ties string
}{
	{"all", "123 123 123", "1234567 1234567 1234567 1234567 1234567 1234567 1234567"},
	{"peers", "1 12 123", "1234 1234 1234 1234 12345 1234567 1234567"},
	{"near 0", "1 2 3", "1234 1234 1234 1234 5 67 67"},
	{"near 1", "12 12 3", "12345 12345 12345 12345 12345 67 67"},
	{"near 2", "12 123 23", "12345 12345 12345 12345 12345 67 67"},
	{"near 3", "123 123 123", "12345 12345 12345 12345 1234567 567 567"},
	{"near 99", "123 123 123", "1234567 1234567 1234567 1234567 1234567 1234567 1234567"},
	{"start to end", "123 123 123", "1234567 1234567 1234567 1234567 1234567 1234567 1234567"},
	{"start to start", "1 1 1", "1 1 1 1 1 1 1"},
	{"end to end", "3 3 3", "7 7 7 7 7 7 7"},
	{"end to start", "- - -", "- - - - - - -"},
	{"here to here", "1 2 3", "1 2 3 4 5 6 7"},
	{"start to here", "1 12 123", "1 12 123 1234 12345 123456 1234567"},
	{"here to end", "123 23 3", "1234567 234567 34567 4567 567 67 7"},
	{"here to start", "1 - -", "1 - - - - - -"},
	{"end to here", "- - 3", "- - - - - - 7"},
	{"1 back to here", "1 12 23", "1 12 23 34 45 56 67"},
	{"1 back to 1 on", "12 123 23", "12 123 234 345 456 567 67"},
	{"2 back to 1 back", "- 1 12", "- 1 12 23 34 45 56"},
	{"1 on to 2 on", "23 3 -", "23 34 45 56 67 7 -"},
	{"1 on to end", "23 3 -", "234567 34567 4567 567 67 7 -"},
	{"start to 1 back", "- 1 12", "- 1 12 123 1234 12345 123456"},
	{"start to 2 on", "123 123 123", "123 1234 12345 123456 1234567 1234567 1234567"},
	{"2 back to end", "123 123 123", "1234567 1234567 1234567 234567 34567 4567 567"},
	{"here to 1 back", "- - -", "- - - - - - -"},
	{"1 on to here", "- - -", "- - - - - - -"},
	{"1 on to 1 back", "- - -", "- - - - - - -"},
	{"0 back to 0 on", "1 2 3", "1 2 3 4 5 6 7"},
	{"0 on to 0 back", "1 2 3", "1 2 3 4 5 6 7"},
	{"1 back to 1 back", "- 1 2", "- 1 2 3 4 5 6"},
	{"1 on to 1 on", "2 3 -", "2 3 4 5 6 7 -"},
	{"2 on to 1 back", "- - -", "- - - - - - -"},
	{"1 back to 2 back", "- - -", "- - - - - - -"},
	{"2 on to 1 on", "- - -", "- - - - - - -"},
	{"99 back to 99 on", "123 123 123", "1234567 1234567 1234567 1234567 1234567 1234567 1234567"},
	{"99 back to 2 back", "- - 1", "- - 1 12 123 1234 12345"},
	{"2 on to 99 on", "3 - -", "34567 4567 567 67 7 - -"},
	{"9 on to 99 on", "- - -", "- - - - - - -"},
	{"99 back to 9 back", "- - -", "- - - - - - -"},
	{"end to 1 on", "- 3 3", "- - - - - 7 7"},
	{"1 back to start", "1 1 -", "1 1 - - - - -"},
}

// over tells what functions are worth over the positions of a frame, told as digits.
func over(function, positions string, column []int) int {
	var in []int
	for _, b := range strings.Trim(positions, "-") {
		in = append(in, column[b-'1'])
	}
	switch {
	case function == "count":
		return len(in)
	case len(in) == 0:
		return none
	case function == "min":
		return slices.Min(in)
	case function == "max":
		return slices.Max(in)
	case function == "first":
		return in[0]
	case function == "last":
		return in[len(in)-1]
	}
	sum := 0
	for _, n := range in {
		sum += n
	}
	return sum
}

func wantFrames(t *testing.T, order string, table []api.Change, frame, positions, column string, worth ...int) {
	t.Helper()
	for _, function := range []string{"count", "sum", "min", "max", "first", "last"} {
		want := []int{}
		for _, f := range strings.Fields(positions) {
			want = append(want, over(function, f, worth))
		}
		wantWorth(t, order, table, fmt.Sprintf("%s(%s, %s)", function, column, frame), want...)
	}
}

func TestFuncsOverFrames(t *testing.T) {
	for _, f := range frames {
		wantFrames(t, "order k", three, f.frame, f.three, "v", 10, 20, 40)
		wantFrames(t, "order k", three, f.frame, f.three, "k", 1, 2, 4)
		wantFrames(t, "order k", ties, f.frame, f.ties, "v", -3, -3, 7, 7, 0, 1, 1)
		wantFrames(t, "order k", ties, f.frame, f.ties, "k", 5, 5, 5, 5, 6, 9, 9)
		wantFrames(t, "order k", ties, f.frame, f.ties, "p", 1, 1, 2, 3, 4, 5, 5)
	}
}

func TestLineOfOne(t *testing.T) {
	one := []api.Change{change(3, -4, 5, 1)}
	for _, frame := range []string{"all", "peers", "near 0", "end to start", "start to here", "here to start", "99 back to 99 on", "0 on to end"} {
		wantFrames(t, "order v desc", one, frame, "1", "k", -4)
	}
	for _, frame := range []string{"1 on to end", "start to 1 back", "1 on to 99 on", "99 back to 1 back", "here to 1 back"} {
		wantFrames(t, "order v desc", one, frame, "-", "k", -4)
	}
	for _, function := range []string{"number", "rank", "dense", "tile(1)", "tile(99)"} {
		wantWorth(t, "order p", one, function, 1)
	}
}

// near goes by the first KEY alone, whichever column it is and whichever way it goes.
func TestNear(t *testing.T) {
	table := []api.Change{change(0, -2, 7, 1), change(0, 0, 5, 2), change(1, 1, -9, 1), change(0, 3, 5, 1), change(2, 3, 8, 1)}
	wantFrames(t, "order k", table, "near 2", "123 1234 1234 23456 456 456", "v", 7, 5, 5, -9, 5, 8)
	wantFrames(t, "order k desc", table, "near 2", "123 123 12345 3456 3456 456", "v", 5, 8, -9, 5, 5, 7)
	wantFrames(t, "order k desc, v desc", table, "near 2", "123 123 12345 3456 3456 456", "v", 8, 5, -9, 5, 5, 7)
	wantFrames(t, "order k desc", table, "near 1", "12 12 345 345 345 6", "k", 3, 3, 1, 0, 0, -2)
	wantFrames(t, "order v, k", table, "near 1", "1 234 234 234 56 56", "k", 1, 0, 0, 3, -2, 3)
	wantFrames(t, "order v desc, k", table, "near 0", "1 2 345 345 345 6", "k", 3, -2, 0, 0, 3, 1)
	wantFrames(t, "order p, v desc", table, "near 1", "12345 12345 12345 12345 123456 56", "k", -2, 0, 0, 3, 1, 3)
	far := []api.Change{change(0, -1000, 1, 1), change(0, -901, 2, 1), change(0, 1000, 3, 1), change(0, 900, 4, 1)}
	wantFrames(t, "order k", far, "near 99", "12 12 3 4", "v", 1, 2, 4, 3)
	wantFrames(t, "order k desc", far, "near 98", "1 2 3 4", "v", 3, 4, 2, 1)
}

// Peers have all KEYs alike, not the first alone, and other columns do not count.
func TestPeers(t *testing.T) {
	table := []api.Change{change(0, 1, 1, 1), change(1, 1, 1, 2), change(2, 1, 2, 1), change(3, 2, 2, 1), change(4, 2, 2, 1)}
	for _, c := range []struct {
		order             string
		rank, dense, last []int
	}{
		{"order k", []int{1, 1, 1, 1, 5, 5}, []int{1, 1, 1, 1, 2, 2}, []int{4, 4, 4, 4, 6, 6}},
		{"order k desc", []int{1, 1, 3, 3, 3, 3}, []int{1, 1, 2, 2, 2, 2}, []int{2, 2, 6, 6, 6, 6}},
		{"order v", []int{1, 1, 1, 4, 4, 4}, []int{1, 1, 1, 2, 2, 2}, []int{3, 3, 3, 6, 6, 6}},
		{"order k, v", []int{1, 1, 1, 4, 5, 5}, []int{1, 1, 1, 2, 3, 3}, []int{3, 3, 3, 4, 6, 6}},
		{"order k desc, v desc", []int{1, 1, 3, 4, 4, 4}, []int{1, 1, 2, 3, 3, 3}, []int{2, 2, 3, 6, 6, 6}},
		{"order k, p", []int{1, 2, 2, 4, 5, 6}, []int{1, 2, 2, 3, 4, 5}, []int{1, 3, 3, 4, 5, 6}},
		{"order k, v, p desc", []int{1, 1, 3, 4, 5, 6}, []int{1, 1, 2, 3, 4, 5}, []int{2, 2, 3, 4, 5, 6}},
	} {
		wantWorth(t, c.order, table, "rank", c.rank...)
		wantWorth(t, c.order, table, "dense", c.dense...)
		wantWorth(t, c.order, table, "count(v, peers)", c.last...)
	}
}

// Where all KEYs are equal the order is that of the rows, with desc too.
func TestLineOrder(t *testing.T) {
	table := []api.Change{change(2, 1, -5, 1), change(1, 2, 3, 1), change(1, 1, 9, 1), change(-1, 2, 3, 1), change(1, 1, -9, 1), change(1, 2, -3, 1)}
	for _, c := range []struct {
		order   string
		p, k, v []int
	}{
		{"order p", []int{-1, 1, 1, 1, 1, 2}, []int{2, 1, 1, 2, 2, 1}, []int{3, -9, 9, -3, 3, -5}},
		{"order p desc", []int{2, 1, 1, 1, 1, -1}, []int{1, 1, 1, 2, 2, 2}, []int{-5, -9, 9, -3, 3, 3}},
		{"order k", []int{1, 1, 2, -1, 1, 1}, []int{1, 1, 1, 2, 2, 2}, []int{-9, 9, -5, 3, -3, 3}},
		{"order k desc", []int{-1, 1, 1, 1, 1, 2}, []int{2, 2, 2, 1, 1, 1}, []int{3, -3, 3, -9, 9, -5}},
		{"order k, v desc", []int{1, 2, 1, -1, 1, 1}, []int{1, 1, 1, 2, 2, 2}, []int{9, -5, -9, 3, 3, -3}},
		{"order k desc, v", []int{1, -1, 1, 1, 2, 1}, []int{2, 2, 2, 1, 1, 1}, []int{-3, 3, 3, -9, -5, 9}},
		{"order v, p desc", []int{1, 2, 1, 1, -1, 1}, []int{1, 1, 2, 2, 2, 1}, []int{-9, -5, -3, 3, 3, 9}},
		{"order k, p desc, v desc", []int{2, 1, 1, 1, 1, -1}, []int{1, 1, 1, 2, 2, 2}, []int{-5, 9, -9, 3, -3, 3}},
	} {
		wantWorth(t, c.order, table, "lag(p, 0)", c.p...)
		wantWorth(t, c.order, table, "lag(k, 0)", c.k...)
		wantWorth(t, c.order, table, "lag(v, 0)", c.v...)
	}
}

// Copies of one row stand side by side; where their values are alike they are one out row.
func TestCopiesOfOneRow(t *testing.T) {
	table := []api.Change{change(0, 1, 8, 1), change(0, 1, 7, 2), change(1, 1, 7, 1), change(0, 1, 7, 1)}
	wantView(t, "order k show number", table,
		out(0, 1, 7, 1, 1), out(0, 1, 7, 1, 2), out(0, 1, 7, 1, 3), out(0, 1, 8, 1, 4), out(1, 1, 7, 1, 5))
	wantView(t, "order k show rank", table, out(0, 1, 7, 3, 1), out(0, 1, 8, 1, 1), out(1, 1, 7, 1, 1))
	wantView(t, "order k show rank, tile(2)", table,
		out(0, 1, 7, 3, 1, 1), out(0, 1, 8, 1, 1, 2), out(1, 1, 7, 1, 1, 2))
	wantView(t, "order k desc show tile(3), rank", table,
		out(0, 1, 7, 2, 1, 1), out(0, 1, 7, 1, 2, 1), out(0, 1, 8, 1, 2, 1), out(1, 1, 7, 1, 3, 1))
	wantView(t, "order v show sum(v, all), lag(v, 1) top 3", table, out(0, 1, 7, 1, 36, none), out(0, 1, 7, 2, 36, 7))
	v := newView(t, "order v show dense")
	wantTold(t, v, []api.Change{change(1, 2, 3, 40)}, out(1, 2, 3, 40, 1))
	wantTold(t, v, []api.Change{change(1, 2, 3, -39)}, out(1, 2, 3, -39, 1))
	wantTold(t, v, []api.Change{change(1, 2, 2, 2)}, out(1, 2, 2, 2, 1), out(1, 2, 3, -1, 1), out(1, 2, 3, 1, 2))
}

func TestParts(t *testing.T) {
	table := []api.Change{change(1, 2, 3, 1), change(1, 3, 2, 2), change(2, 2, 1, 1), change(2, 3, 9, 1), change(2, 2, 3, 1)}
	wantView(t, "order v show number, sum(v, all)", table, out(1, 2, 3, 1, 4, 20), out(1, 3, 2, 1, 2, 20),
		out(1, 3, 2, 1, 3, 20), out(2, 2, 1, 1, 1, 20), out(2, 2, 3, 1, 5, 20), out(2, 3, 9, 1, 6, 20))
	wantView(t, "by p order v show number, sum(v, all)", table, out(1, 2, 3, 1, 3, 7), out(1, 3, 2, 1, 1, 7),
		out(1, 3, 2, 1, 2, 7), out(2, 2, 1, 1, 1, 13), out(2, 2, 3, 1, 2, 13), out(2, 3, 9, 1, 3, 13))
	wantView(t, "by k order v show number, lag(p, 1)", table, out(1, 2, 3, 1, 2, 2), out(1, 3, 2, 1, 1, none),
		out(1, 3, 2, 1, 2, 1), out(2, 2, 1, 1, 1, none), out(2, 2, 3, 1, 3, 1), out(2, 3, 9, 1, 3, 1))
	wantView(t, "by v order k desc show rank, last(p, all)", table, out(1, 2, 3, 1, 1, 2), out(1, 3, 2, 2, 1, 1),
		out(2, 2, 1, 1, 1, 2), out(2, 2, 3, 1, 1, 2), out(2, 3, 9, 1, 1, 2))
	wantView(t, "by p, k order v desc show number, tile(2)", table, out(1, 2, 3, 1, 1, 1), out(1, 3, 2, 1, 1, 1),
		out(1, 3, 2, 1, 2, 2), out(2, 2, 1, 1, 2, 2), out(2, 2, 3, 1, 1, 1), out(2, 3, 9, 1, 1, 1))
	wantView(t, "by v, p, k order k show number, count(k, all)", table, out(1, 2, 3, 1, 1, 1), out(1, 3, 2, 1, 1, 2),
		out(1, 3, 2, 1, 2, 2), out(2, 2, 1, 1, 1, 1), out(2, 2, 3, 1, 1, 1), out(2, 3, 9, 1, 1, 1))
	wantView(t, "by p order v desc show dense top 1", table, out(1, 2, 3, 1, 1), out(2, 3, 9, 1, 1))
	wantView(t, "by p order v desc show dense top 1 from 2", table, out(1, 3, 2, 1, 2), out(2, 2, 1, 1, 3))
}

// Each top and from around the end of a line of five.
func TestTopAndFrom(t *testing.T) {
	table := []api.Change{change(0, 5, 1, 1), change(0, 1, 5, 1), change(0, 2, 4, 1), change(0, 3, 3, 1), change(0, 4, 2, 1)}
	for top := range 8 {
		for from := range 8 {
			want := []api.Out{}
			for i := from + 1; i <= from+top && i <= 5; i++ {
				want = append(want, out(0, i, 6-i, 1, i, 15))
			}
			wantView(t, fmt.Sprintf("order k show number, sum(v, all) top %d from %d", top, from), table, want...)
			if from == 0 {
				wantView(t, fmt.Sprintf("order k show number, sum(v, all) top %d", top), table, want...)
			}
		}
	}
	wantView(t, "order k show lag(k, 1), lead(k, 1), count(k, 9 back to 9 on) top 1 from 2", table, out(0, 3, 3, 1, 2, 4, 5))
	wantView(t, "order k show rank top 99 from 99", table)
	wantView(t, "order k show rank top 99 from 4", table, out(0, 5, 1, 1, 5))
	wantView(t, "order k show rank top 99 from 5", table)
	wantView(t, "order k show rank top 0 from 0", table)
}

// Of equal rows none comes ahead of any number, be it the least that there is.
func TestNoneAheadOfNumbers(t *testing.T) {
	table := []api.Change{change(0, -1000, -1000, 40)}
	v := newView(t, "order k show sum(v, 1 on to end), lag(v, 39)")
	want := []api.Out{out(0, -1000, -1000, 1, none, -1000)}
	for n := 39; n > 0; n-- {
		want = append(want, out(0, -1000, -1000, 1, -1000*n, none))
	}
	wantTold(t, v, table, want...)
	wantRows(t, v, want...)
	wantView(t, "order k show rank, lag(v, 2), lead(v, 39)", table,
		out(0, -1000, -1000, 1, 1, none, none), out(0, -1000, -1000, 1, 1, none, -1000), out(0, -1000, -1000, 38, 1, -1000, none))
	wantView(t, "order k show lead(v, 1), number", []api.Change{change(0, 0, -1000, 1), change(0, 0, 0, 2)},
		out(0, 0, -1000, 1, 0, 1), out(0, 0, 0, 1, none, 3), out(0, 0, 0, 1, 0, 2))
}

// Each number of functions, each value in its place.
func TestSeveralFuncs(t *testing.T) {
	table := []api.Change{change(0, 1, 2, 1), change(0, 1, 3, 1)}
	wantView(t, "order v show number", table, out(0, 1, 2, 1, 1), out(0, 1, 3, 1, 2))
	wantView(t, "order v show sum(v, all), number", table, out(0, 1, 2, 1, 5, 1), out(0, 1, 3, 1, 5, 2))
	wantView(t, "order v show lag(v, 1), number, lead(v, 1), number", table,
		out(0, 1, 2, 1, none, 1, 3, 1), out(0, 1, 3, 1, 2, 2, none, 2))
}

// A none is worth 0 in its number; a 0 is not none.
func TestNoneIsNotNought(t *testing.T) {
	table := []api.Change{change(0, 0, 0, 2)}
	wantView(t, "order k show lag(v, 1), sum(v, 1 on to end), min(v, all), count(v, end to start)", table,
		out(0, 0, 0, 1, none, 0, 0, 0), out(0, 0, 0, 1, 0, none, 0, 0))
	v := newView(t, "order k show lag(v, 1), sum(v, 1 on to end)")
	told(t, v, table...)
	if got := v.Rows()[0].Vals[0]; got != (api.Value{Ok: false, N: 0}) {
		t.Errorf("none is %v", got)
	}
}

func TestNothingChanges(t *testing.T) {
	v := newView(t, "by p order v desc show number, max(v, all) top 2")
	wantTold(t, v, nil)
	wantTold(t, v, []api.Change{change(1, 1, 1, 1), change(1, 1, 1, -1)})
	wantTold(t, v, []api.Change{change(1, 0, 9, 1), change(1, 0, 8, 1)}, out(1, 0, 8, 1, 2, 9), out(1, 0, 9, 1, 1, 9))
	rows := v.Rows()
	for _, batch := range [][]api.Change{
		{},
		{change(1, 0, 7, 3)},
		{change(1, 0, 7, -1), change(1, 0, 6, 2)},
		{change(1, 0, 9, -1), change(1, 0, 9, 2), change(1, 0, 9, -1)},
		{change(2, 0, 9, -1), change(2, 0, 9, 1)},
		{change(1, 0, 8, 5)},
		{change(1, 0, 7, -2), change(1, 0, 6, -2), change(1, 0, 8, -5)},
	} {
		wantTold(t, v, batch)
		wantRows(t, v, rows...)
	}
	wantTable(t, v, change(1, 0, 8, 1), change(1, 0, 9, 1))
	// The table grows and nothing is shown.
	w := newView(t, "order k show rank top 0")
	wantTold(t, w, []api.Change{change(1, 1, 1, 40)})
	wantRows(t, w)
	wantTable(t, w, change(1, 1, 1, 40))
}

func TestFewerCopies(t *testing.T) {
	v := newView(t, "order k show rank, count(v, all)")
	wantTold(t, v, []api.Change{change(0, 1, 0, 2), change(0, 2, 0, 3)}, out(0, 1, 0, 2, 1, 5), out(0, 2, 0, 3, 3, 5))
	wantTold(t, v, []api.Change{change(0, 2, 0, -1)},
		out(0, 1, 0, 2, 1, 4), out(0, 1, 0, -2, 1, 5), out(0, 2, 0, 2, 3, 4), out(0, 2, 0, -3, 3, 5))
	wantTold(t, v, []api.Change{change(0, 1, 0, -2), change(0, 3, 0, 2)},
		out(0, 1, 0, -2, 1, 4), out(0, 2, 0, 2, 1, 4), out(0, 2, 0, -2, 3, 4), out(0, 3, 0, 2, 3, 4))
	wantTold(t, v, []api.Change{change(0, 2, 0, -2), change(0, 3, 0, -2)}, out(0, 2, 0, -2, 1, 4), out(0, 3, 0, -2, 3, 4))
	wantRows(t, v)
}

// What README.md tells.
func TestReadmeExample(t *testing.T) {
	v := newView(t, "by p order v desc show rank, lead(v, 1) top 1")
	wantTold(t, v, []api.Change{change(1, 0, 9, 1), change(1, 0, 5, 2)}, out(1, 0, 9, 1, 1, 5))
	wantTold(t, v, []api.Change{change(1, 0, 9, -1)}, out(1, 0, 5, 1, 1, 5), out(1, 0, 9, -1, 1, 5))
	wantRows(t, v, out(1, 0, 5, 1, 1, 5))
	wantTable(t, v, change(1, 0, 5, 2))
}
