package tables

import (
	"slices"
	"testing"

	"panes/api"
)

func change(p, k, v, n int) api.Change {
	return api.Change{Row: api.Row{P: p, K: k, V: v}, N: n}
}

func after(t *testing.T, ahead Table, batch ...api.Change) Table {
	t.Helper()
	behind, e, at := ahead.After(batch)
	if e != api.OK || at != 0 {
		t.Fatalf("After(%v) = %d, %d, want 0, 0", batch, e, at)
	}
	return behind
}

func wantList(t *testing.T, table Table, want ...api.Change) {
	t.Helper()
	if got := table.List(); !slices.Equal(got, want) {
		t.Errorf("List() = %v, want %v", got, want)
	}
}

// After leaves the table ahead as it is, so that both may be looked at.
func TestAfterLeavesAhead(t *testing.T) {
	first := after(t, Table{}, change(2, 0, 0, 1), change(1, 0, 0, 1), change(3, 0, 0, 1))
	second := after(t, first, change(1, 0, 0, 2), change(2, 0, 0, -1), change(0, 0, 0, 1))
	third := after(t, first, change(1, 0, 0, -1), change(4, 0, 0, 5))
	wantList(t, Table{})
	wantList(t, first, change(1, 0, 0, 1), change(2, 0, 0, 1), change(3, 0, 0, 1))
	wantList(t, second, change(0, 0, 0, 1), change(1, 0, 0, 3), change(3, 0, 0, 1))
	wantList(t, third, change(2, 0, 0, 1), change(3, 0, 0, 1), change(4, 0, 0, 5))
}

// Beside an error there is an empty table.
func TestAfterWrong(t *testing.T) {
	ahead := after(t, Table{}, change(1, 0, 0, 1))
	for _, c := range []struct {
		batch []api.Change
		e     api.Errno
		at    int
	}{
		{slices.Repeat([]api.Change{change(1, 0, 0, 1)}, 51), api.ErrLong, 0},
		{[]api.Change{change(1, 0, 0, 1), change(1, 0, -1001, 1)}, api.ErrRow, 1},
		{[]api.Change{change(1, 0, 0, 1), change(1, 0, 0, 0)}, api.ErrCount, 1},
		{[]api.Change{change(2, 0, 0, 1), change(1, 0, 0, -2)}, api.ErrLess, 1},
		{[]api.Change{change(2, 0, 0, 40)}, api.ErrFull, 0},
	} {
		got, e, at := ahead.After(c.batch)
		if e != c.e || at != c.at {
			t.Errorf("After(%v) = %d, %d, want %d, %d", c.batch, e, at, c.e, c.at)
		}
		wantList(t, got)
		wantList(t, ahead, change(1, 0, 0, 1))
	}
}
