package panes_test

import (
	"cmp"
	"math"
	"math/rand"
	"slices"
	"strings"
	"testing"

	"panes/api"
	"panes/panes"
)

func newView(t *testing.T, query string) *panes.View {
	t.Helper()
	v, e, at := panes.New(query)
	if v == nil || e != api.OK || at != 0 {
		t.Fatalf("New(%q) = %v, %d, %d, want a view, 0, 0", query, v, e, at)
	}
	return v
}

func change(p, k, v, n int) api.Change {
	return api.Change{Row: api.Row{P: p, K: k, V: v}, N: n}
}

// times is a batch of one change so many times.
func times(c api.Change, n int) []api.Change {
	return slices.Repeat([]api.Change{c}, n)
}

func wantTable(t *testing.T, v *panes.View, want ...api.Change) {
	t.Helper()
	if got := v.Table(); !slices.Equal(got, want) {
		t.Errorf("Table() = %v, want %v", got, want)
	}
}

func wantMade(t *testing.T, v *panes.View, batch ...api.Change) {
	t.Helper()
	_, e, at := v.Apply(batch)
	if e != api.OK || at != 0 {
		t.Errorf("Apply(%v) = %d, %d, want 0, 0", batch, e, at)
	}
}

// wantRefused sees to it that the table and the view stay as they were, too.
func wantRefused(t *testing.T, v *panes.View, batch []api.Change, e api.Errno, at int) {
	t.Helper()
	ahead, rows := v.Table(), v.Rows()
	outs, gotE, gotAt := v.Apply(batch)
	if len(outs) != 0 || gotE != e || gotAt != at {
		t.Errorf("Apply(%v) = %v, %d, %d, want none, %d, %d", batch, outs, gotE, gotAt, e, at)
	}
	wantTable(t, v, ahead...)
	wantRows(t, v, rows...)
}

// spoil writes into a list and into its spare room.
func spoil(list []api.Change) {
	list = list[:cap(list)]
	for i := range list {
		list[i] = change(77, 77, 77, 77)
	}
}

func TestNew(t *testing.T) {
	for _, q := range []string{
		"order k show rank",
		" by p,k order v desc ,k show sum( v,02 back to here ),lag(k,1)top 3 from 0",
		fill("order k show rank", api.MaxText),
		"order k show rank, dense, number, tile(1) top 0",
	} {
		wantTable(t, newView(t, q))
	}
}

func TestNewErrors(t *testing.T) {
	for _, c := range []struct {
		query string
		e     api.Errno
		at    int
	}{
		{fill("order k show rank", api.MaxText+1), api.ErrLong, 0},
		{"order k show tile(100)", api.ErrToken, 18},
		{"order k show rank\t", api.ErrToken, 17},
		{"", api.ErrSyntax, 0},
		{"order k", api.ErrSyntax, 7},
		{"order k show rank, dense top", api.ErrSyntax, 28},
		{"order k show rank, rank, rank, rank, tile(0)", api.ErrMany, 37},
		{"by p, p order k, k show tile(0)", api.ErrTwice, 6},
		{"order k, k desc show rank", api.ErrTwice, 9},
		{"order k show tile(00)", api.ErrArg, 18},
	} {
		v, e, at := panes.New(c.query)
		if v != nil || e != c.e || at != c.at {
			t.Errorf("New(%.90q) = %v, %d, %d, want nil, %d, %d", c.query, v, e, at, c.e, c.at)
		}
	}
}

// New takes what Plan takes, and refuses the rest as Plan does.
func TestNewLikePlan(t *testing.T) {
	whole := "by p, k order v desc, k show tile(0), sum(v, 2 back to here), rank, dense, number top 3 from 1"
	for i := 0; i <= len(whole); i++ {
		for _, q := range []string{whole[:i], whole[i:], whole[:i] + "?" + whole[i:], strings.ReplaceAll(whole[:i]+whole[min(i+1, len(whole)):], "0", "1")} {
			_, e, at := panes.Plan(q)
			v, gotE, gotAt := panes.New(q)
			if gotE != e || gotAt != at || (v == nil) != (e != api.OK) {
				t.Errorf("New(%q) = %v, %d, %d, want %d, %d", q, v, gotE, gotAt, e, at)
			}
		}
	}
}

func TestApplyExamples(t *testing.T) {
	v := newView(t, "order k show rank")
	wantRefused(t, v, []api.Change{change(0, 0, 1001, 1)}, api.ErrRow, 0)
	wantRefused(t, v, []api.Change{change(0, 0, 0, 0)}, api.ErrCount, 0)
	wantRefused(t, v, []api.Change{change(0, 0, 0, 2), change(0, 0, 0, -3)}, api.ErrLess, 0)
	wantMade(t, v, change(0, 0, 0, -1), change(0, 0, 0, 1))
	wantTable(t, v)
}

func TestTableOrder(t *testing.T) {
	// The table's order is that of the rows, whatever the query says.
	v := newView(t, "by v order p desc, k desc show rank top 1")
	want := []api.Change{
		change(-1000, 1000, 1000, 1), change(-2, 9, 9, 2), change(-1, -3, 8, 1), change(-1, -3, 9, 3),
		change(-1, 0, -1, 1), change(0, 0, 0, 1), change(0, 0, 1, 1), change(0, 1, 0, 1), change(1, 0, 0, 1),
		change(10, -1000, 2, 1), change(1000, -1000, -1000, 1),
	}
	turned := slices.Clone(want)
	slices.Reverse(turned)
	wantMade(t, v, turned...)
	wantTable(t, v, want...)
	for i := range want {
		wantMade(t, v, change(-1, 0, 0, 1), change(want[i].Row.P, want[i].Row.K, want[i].Row.V, -want[i].N))
	}
	wantTable(t, v, change(-1, 0, 0, len(want)))
}

func TestTableComesAndGoes(t *testing.T) {
	v := newView(t, "order k show number")
	wantMade(t, v)
	wantTable(t, v)
	wantMade(t, v, change(0, 5, 1, 1), change(0, 5, 2, 2), change(0, 7, 0, 1))
	wantTable(t, v, change(0, 5, 1, 1), change(0, 5, 2, 2), change(0, 7, 0, 1))
	wantMade(t, v)
	wantTable(t, v, change(0, 5, 1, 1), change(0, 5, 2, 2), change(0, 7, 0, 1))
	wantMade(t, v, change(0, 5, 1, -1))
	wantTable(t, v, change(0, 5, 2, 2), change(0, 7, 0, 1))
	wantMade(t, v, change(0, 5, 2, 3), change(0, 7, 0, -1), change(0, 5, 2, -4), change(0, 5, 1, 1))
	wantTable(t, v, change(0, 5, 1, 1), change(0, 5, 2, 1))
	wantMade(t, v, change(0, 5, 1, -1), change(0, 5, 2, -1))
	wantTable(t, v)
	wantMade(t, v, change(0, 5, 2, 1))
	wantTable(t, v, change(0, 5, 2, 1))
}

func TestApplyMaxBatch(t *testing.T) {
	v := newView(t, "order k show rank")
	there := times(change(1, 2, 3, 1), api.MaxBatch/2)
	andBack := append(there, times(change(1, 2, 3, -1), api.MaxBatch/2)...)
	wantMade(t, v, andBack...)
	wantTable(t, v)
	wantRefused(t, v, append(andBack, change(1, 2, 3, 1)), api.ErrLong, 0)
	wantRefused(t, v, times(change(2000, 0, 0, 0), api.MaxBatch+1), api.ErrLong, 0)
	wantRefused(t, v, times(change(0, 0, 0, -1), 1000000), api.ErrLong, 0)
	var each []api.Change
	for i := range api.MaxBatch {
		each = append(each, change(i%api.MaxCopies, 0, 0, 1-2*(i/api.MaxCopies)))
	}
	wantMade(t, v, each...)
	if got := len(v.Table()); got != 2*api.MaxCopies-api.MaxBatch {
		t.Errorf("%d rows are left of %d", got, api.MaxCopies)
	}
}

func TestApplyMaxValue(t *testing.T) {
	good := change(4, 4, 4, 1)
	for _, n := range []int{api.MaxValue, -api.MaxValue} {
		v := newView(t, "order k show rank")
		rows := []api.Change{change(n, 0, 0, 1), change(0, n, 0, 1), change(0, 0, n, 1), change(n, n, n, 1)}
		wantMade(t, v, rows...)
		if got := len(v.Table()); got != len(rows) {
			t.Errorf("%d rows of %v", got, rows)
		}
	}
	for _, n := range []int{api.MaxValue + 1, -api.MaxValue - 1, 1 << 32, math.MaxInt, math.MinInt} {
		v := newView(t, "order k show rank")
		wantMade(t, v, good)
		for _, bad := range []api.Change{change(n, 0, 0, 1), change(0, n, 0, 1), change(0, 0, n, 1), change(n, n, n, -1)} {
			wantRefused(t, v, []api.Change{bad}, api.ErrRow, 0)
			wantRefused(t, v, []api.Change{good, good, bad, good, bad}, api.ErrRow, 2)
			wantRefused(t, v, append(times(good, api.MaxBatch-1), bad), api.ErrRow, api.MaxBatch-1)
		}
	}
}

func TestApplyCount(t *testing.T) {
	v := newView(t, "order k show rank")
	good := change(4, 4, 4, 1)
	wantMade(t, v, change(1, 1, 1, api.MaxCopies))
	wantTable(t, v, change(1, 1, 1, api.MaxCopies))
	for _, n := range []int{0, api.MaxCopies + 1, -api.MaxCopies - 1, 1 << 32, -1 << 32, math.MaxInt, math.MinInt} {
		wantRefused(t, v, []api.Change{change(1, 1, 1, n)}, api.ErrCount, 0)
		wantRefused(t, v, []api.Change{good, change(1, 1, 1, n), change(1, 1, 1, n)}, api.ErrCount, 1)
		wantRefused(t, v, append(times(good, api.MaxBatch-1), change(1, 1, 1, n)), api.ErrCount, api.MaxBatch-1)
	}
	wantMade(t, v, change(1, 1, 1, -api.MaxCopies))
	wantTable(t, v)
}

func TestApplyLess(t *testing.T) {
	v := newView(t, "by p order k show rank")
	wantRefused(t, v, []api.Change{change(0, 0, 0, -1)}, api.ErrLess, 0)
	wantMade(t, v, change(1, 0, 0, 2), change(2, 0, 0, 1))
	wantRefused(t, v, []api.Change{change(1, 0, 0, -3)}, api.ErrLess, 0)
	wantRefused(t, v, []api.Change{change(1, 0, 0, -1), change(1, 0, 0, -2)}, api.ErrLess, 0)
	wantRefused(t, v, []api.Change{change(2, 0, 0, -1), change(1, 0, 0, 1), change(1, 0, 0, -4)}, api.ErrLess, 1)
	// A row that is short on the way only does not count.
	wantRefused(t, v, []api.Change{change(2, 0, 0, -9), change(1, 0, 0, -9), change(2, 0, 0, 8)}, api.ErrLess, 1)
	// The change's number counts, not the row's place in the table.
	wantRefused(t, v, []api.Change{change(5, 0, 0, 1), change(3, 0, 0, -1), change(0, 0, 0, -1)}, api.ErrLess, 1)
	wantRefused(t, v, []api.Change{change(1, 0, 1, -1)}, api.ErrLess, 0)
	wantRefused(t, v, []api.Change{change(1, 1, 0, -1)}, api.ErrLess, 0)
	wantRefused(t, v, append(times(change(3, 0, 0, 1), api.MaxBatch-1), change(4, 0, 0, -1)), api.ErrLess, api.MaxBatch-1)
	wantMade(t, v, change(1, 0, 0, -9), change(1, 0, 0, -9), change(1, 0, 0, 16), change(2, 0, 0, -1))
	wantTable(t, v)
}

func TestApplyFull(t *testing.T) {
	v := newView(t, "order k show rank")
	wantRefused(t, v, times(change(0, 0, 0, 1), api.MaxCopies+1), api.ErrFull, 0)
	wantMade(t, v, times(change(0, 0, 0, 1), api.MaxCopies)...)
	wantTable(t, v, change(0, 0, 0, api.MaxCopies))
	wantRefused(t, v, []api.Change{change(0, 0, 0, 1)}, api.ErrFull, 0)
	wantRefused(t, v, []api.Change{change(0, 0, 1, 1)}, api.ErrFull, 0)
	wantRefused(t, v, times(change(0, 0, 0, api.MaxCopies), api.MaxBatch), api.ErrFull, 0)
	wantRefused(t, v, []api.Change{change(5, 0, 0, 2), change(0, 0, 0, -1)}, api.ErrFull, 0)
	// Only what is there behind the whole batch counts.
	wantMade(t, v, change(5, 0, 0, 40), change(6, 0, 0, 1), change(0, 0, 0, -40), change(5, 0, 0, -1))
	wantTable(t, v, change(5, 0, 0, 39), change(6, 0, 0, 1))
	wantMade(t, v, change(5, 0, 0, -39))
	for i := range api.MaxCopies - 1 {
		wantMade(t, v, change(i-20, i, -i, 1))
	}
	wantRefused(t, v, []api.Change{change(999, 0, 0, 1)}, api.ErrFull, 0)
	if got := len(v.Table()); got != api.MaxCopies {
		t.Errorf("Table() has %d rows, want %d", got, api.MaxCopies)
	}
}

func TestApplyFirstNamed(t *testing.T) {
	v := newView(t, "order k show rank")
	wantMade(t, v, change(0, 0, 0, 1))
	full, less, count, row := change(1, 0, 0, 40), change(2, 0, 0, -1), change(0, 0, 0, 41), change(0, 0, -1001, 1)
	both := change(0, 1001, 0, 0)
	wantRefused(t, v, append(times(both, api.MaxBatch), full), api.ErrLong, 0)
	wantRefused(t, v, times(both, api.MaxBatch), api.ErrRow, 0)
	wantRefused(t, v, []api.Change{both, count, row}, api.ErrRow, 0)
	// The first change with a fault of its own, be it a row or a count.
	wantRefused(t, v, []api.Change{full, less, count, row}, api.ErrCount, 2)
	wantRefused(t, v, []api.Change{full, less, row, count}, api.ErrRow, 2)
	wantRefused(t, v, []api.Change{less, both, count}, api.ErrRow, 1)
	wantRefused(t, v, []api.Change{full, less}, api.ErrLess, 1)
	wantRefused(t, v, []api.Change{less, full, full}, api.ErrLess, 0)
	// Others may be short by more than there are too many.
	wantRefused(t, v, []api.Change{full, full, change(0, 0, 0, -40), change(3, 0, 0, -40)}, api.ErrLess, 2)
	wantRefused(t, v, []api.Change{full}, api.ErrFull, 0)
	wantMade(t, v, full, change(0, 0, 0, -1))
	wantTable(t, v, full)
}

// A refused batch leaves no trace, not even in what is made behind it.
func TestApplyRefusedLeavesNothing(t *testing.T) {
	for _, bad := range []api.Change{change(0, 1001, 0, 1), change(0, 0, 0, 0), change(3, 3, 3, -1), change(0, 0, 0, 39)} {
		v := newView(t, "order k show rank")
		wantMade(t, v, change(1, 1, 1, 2))
		batch := []api.Change{change(1, 1, 1, -1), change(2, 2, 2, 1), bad}
		for range 3 {
			if _, e, _ := v.Apply(batch); e == api.OK {
				t.Errorf("Apply(%v) is made", batch)
			}
		}
		wantMade(t, v, change(1, 1, 1, -1), change(0, 0, 0, 1))
		wantTable(t, v, change(0, 0, 0, 1), change(1, 1, 1, 1))
	}
}

func TestBatchIsTheCallers(t *testing.T) {
	for _, batch := range [][]api.Change{
		{change(3, 0, 0, 1), change(1, 0, 0, 2), change(3, 0, 0, 1), change(2, 0, 0, 3)},
		{change(3, 0, 0, 1), change(1, 0, 0, -2)},
		{change(3, 0, 0, 1), change(1, 0, 0, 40)},
		{change(3, 0, 0, 1), change(1, 0, 0, 41)},
		{change(3, 0, 0, 1), change(1, 0, 2000, 1)},
		{},
	} {
		v := newView(t, "order k show rank")
		whole := slices.Concat(batch, times(change(7, 7, 7, 7), 60))
		ahead := slices.Clone(whole)
		_, e, _ := v.Apply(whole[:len(batch)])
		if !slices.Equal(whole, ahead) {
			t.Errorf("Apply(%v) wrote into its batch or the spare room: %v", batch, whole)
		}
		table := v.Table()
		spoil(whole)
		wantTable(t, v, table...)
		if e != api.OK {
			continue
		}
		wantMade(t, v, change(-1, 0, 0, 1))
		wantTable(t, v, slices.Concat([]api.Change{change(-1, 0, 0, 1)}, table)...)
	}
}

func TestTableIsTheCallers(t *testing.T) {
	v := newView(t, "order k show rank")
	want := []api.Change{change(1, 0, 0, 2), change(2, 0, 0, 3), change(3, 0, 0, 2)}
	wantMade(t, v, want...)
	first, second := v.Table(), v.Table()
	spoil(first)
	if !slices.Equal(second, want) {
		t.Errorf("a table of the caller's is %v, want %v", second, want)
	}
	wantTable(t, v, want...)
	wantMade(t, v, change(2, 0, 0, -3))
	if !slices.Equal(second, want) {
		t.Errorf("Apply changed a table of the caller's: %v, want %v", second, want)
	}
	spoil(second)
	wantTable(t, v, change(1, 0, 0, 2), change(3, 0, 0, 2))
	// What came out may be handed in again.
	wantMade(t, v, v.Table()...)
	wantTable(t, v, change(1, 0, 0, 4), change(3, 0, 0, 4))
	// The spare room of a table without entries too.
	wantMade(t, v, change(1, 0, 0, -4), change(3, 0, 0, -4))
	spoil(v.Table())
	wantMade(t, v, change(5, 0, 0, 1))
	wantTable(t, v, change(5, 0, 0, 1))
}

func TestViewsAreApart(t *testing.T) {
	query := "by p order k show rank"
	a, b := newView(t, query), newView(t, query)
	wantMade(t, a, change(1, 0, 0, 40))
	wantTable(t, b)
	wantMade(t, b, change(2, 0, 0, 1))
	wantMade(t, a, change(1, 0, 0, -1))
	c := newView(t, "order v show dense")
	wantTable(t, a, change(1, 0, 0, 39))
	wantTable(t, b, change(2, 0, 0, 1))
	wantTable(t, c)
	spoil(b.Table())
	wantMade(t, c, a.Table()...)
	wantMade(t, c, change(0, 0, 0, 1))
	wantRefused(t, b, []api.Change{change(1, 0, 0, -1)}, api.ErrLess, 0)
	wantTable(t, a, change(1, 0, 0, 39))
	wantTable(t, b, change(2, 0, 0, 1))
	wantTable(t, c, change(0, 0, 0, 1), change(1, 0, 0, 39))
}

// model is a table by the document's words: a number of copies of each row.
type model map[api.Row]int

func (m model) after(batch []api.Change) (model, api.Errno, int) {
	if len(batch) > api.MaxBatch {
		return m, api.ErrLong, 0
	}
	next := model{}
	for r, n := range m {
		next[r] = n
	}
	for i, c := range batch {
		if max(c.Row.P, c.Row.K, c.Row.V) > api.MaxValue || min(c.Row.P, c.Row.K, c.Row.V) < -api.MaxValue {
			return m, api.ErrRow, i
		}
		if c.N == 0 || max(c.N, -c.N) > api.MaxCopies {
			return m, api.ErrCount, i
		}
		next[c.Row] += c.N
	}
	all := 0
	for _, n := range next {
		all += n
	}
	for i, c := range batch {
		if next[c.Row] < 0 {
			return m, api.ErrLess, i
		}
	}
	if all > api.MaxCopies {
		return m, api.ErrFull, 0
	}
	return next, api.OK, 0
}

func (m model) table() []api.Change {
	var list []api.Change
	for r, n := range m {
		if n != 0 {
			list = append(list, api.Change{Row: r, N: n})
		}
	}
	slices.SortFunc(list, func(a, b api.Change) int {
		return cmp.Or(cmp.Compare(a.Row.P, b.Row.P), cmp.Compare(a.Row.K, b.Row.K), cmp.Compare(a.Row.V, b.Row.V))
	})
	return list
}

var someValues = []int{-1000, -1, 0, 1000}

func someChange(r *rand.Rand) api.Change {
	c := change(someValues[r.Intn(4)], someValues[r.Intn(4)], someValues[r.Intn(4)], 1+r.Intn(3))
	if r.Intn(3) == 0 {
		c = change(c.Row.P, 0, 0, -c.N)
	}
	if r.Intn(60) == 0 {
		c.N = r.Intn(100) - 50
	}
	if r.Intn(40) == 0 {
		c.Row.K += r.Intn(5) - 2
	}
	return c
}

// Some changes take back what there is, lest the table stay full.
func someBatch(r *rand.Rand, m model) []api.Change {
	batch := []api.Change{}
	for n := r.Intn(8); n > 0; n-- {
		batch = append(batch, someChange(r))
	}
	for _, c := range m.table() {
		if r.Intn(5) == 0 {
			batch = append(batch, change(c.Row.P, c.Row.K, c.Row.V, -1-r.Intn(c.N)))
		}
	}
	if r.Intn(40) == 0 {
		batch = append(batch, times(change(0, 0, 0, 1), 50-r.Intn(4))...)
	}
	r.Shuffle(len(batch), func(i, j int) { batch[i], batch[j] = batch[j], batch[i] })
	return batch
}

func TestTableLikeModel(t *testing.T) {
	r := rand.New(rand.NewSource(1))
	v, m := newView(t, "by p order k show rank"), model{}
	seen := map[api.Errno]int{}
	for range 20000 {
		batch := someBatch(r, m)
		next, e, at := m.after(batch)
		_, gotE, gotAt := v.Apply(batch)
		if gotE != e || gotAt != at {
			t.Fatalf("Apply(%v) on %v = %d, %d, want %d, %d", batch, m.table(), gotE, gotAt, e, at)
		}
		m = next
		seen[e]++
		if got := v.Table(); !slices.Equal(got, m.table()) {
			t.Fatalf("Table() = %v, want %v", got, m.table())
		}
	}
	for _, e := range []api.Errno{api.OK, api.ErrLong, api.ErrRow, api.ErrCount, api.ErrLess, api.ErrFull} {
		if seen[e] < 50 {
			t.Errorf("the error %d came %d times only", e, seen[e])
		}
	}
}

// In which order the changes stand does not matter, nor in which batches.
func TestTableAnyOrder(t *testing.T) {
	r := rand.New(rand.NewSource(2))
	for range 300 {
		batch := []api.Change{}
		for range 1 + r.Intn(20) {
			batch = append(batch, change(r.Intn(3), r.Intn(3), r.Intn(3), 1+r.Intn(2)))
		}
		whole, apart := newView(t, "order k show rank"), newView(t, "order k show rank")
		wantMade(t, whole, batch...)
		r.Shuffle(len(batch), func(i, j int) { batch[i], batch[j] = batch[j], batch[i] })
		for _, c := range batch {
			wantMade(t, apart, c)
		}
		wantTable(t, apart, whole.Table()...)
		for i := range batch {
			batch[i].N = -batch[i].N
		}
		wantMade(t, whole, batch...)
		wantTable(t, whole)
	}
}
