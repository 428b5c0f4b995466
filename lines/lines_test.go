package lines

import (
	"slices"
	"testing"

	"panes/api"
	"panes/queries"
)

func read(t *testing.T, text string) queries.Query {
	t.Helper()
	q, e, at := queries.Read(text)
	if e != api.OK {
		t.Fatalf("Read(%q): %d, %d", text, e, at)
	}
	return q
}

func change(p, k, v, n int) api.Change {
	return api.Change{Row: api.Row{P: p, K: k, V: v}, N: n}
}

func row(p, k, v int) api.Row {
	return api.Row{P: p, K: k, V: v}
}

func TestOfTable(t *testing.T) {
	table := []api.Change{change(1, 2, 3, 2), change(1, 3, 2, 1), change(2, 2, 1, 1), change(2, 2, 3, 1)}
	for _, c := range []struct {
		query string
		lines [][]api.Row
	}{
		{"order p show rank", [][]api.Row{{row(1, 2, 3), row(1, 2, 3), row(1, 3, 2), row(2, 2, 1), row(2, 2, 3)}}},
		{"order p desc show rank", [][]api.Row{{row(2, 2, 1), row(2, 2, 3), row(1, 2, 3), row(1, 2, 3), row(1, 3, 2)}}},
		{"order v, k desc show rank", [][]api.Row{{row(2, 2, 1), row(1, 3, 2), row(1, 2, 3), row(1, 2, 3), row(2, 2, 3)}}},
		{"order v, p desc show rank", [][]api.Row{{row(2, 2, 1), row(1, 3, 2), row(2, 2, 3), row(1, 2, 3), row(1, 2, 3)}}},
		{"by k order v show rank", [][]api.Row{{row(2, 2, 1), row(1, 2, 3), row(1, 2, 3), row(2, 2, 3)}, {row(1, 3, 2)}}},
		{"by k, p order v show rank", [][]api.Row{{row(1, 2, 3), row(1, 2, 3)}, {row(1, 3, 2)}, {row(2, 2, 1), row(2, 2, 3)}}},
	} {
		got := ofTable(read(t, c.query), table)
		if len(got) != len(c.lines) {
			t.Fatalf("%s: %v, want %v", c.query, got, c.lines)
		}
		for i := range got {
			if !slices.Equal(got[i].copies, c.lines[i]) {
				t.Errorf("%s: the line %d is %v, want %v", c.query, i, got[i].copies, c.lines[i])
			}
		}
	}
}

// The lengths of the tiles are as the document tells them, for each line and each number of tiles that there may be.
func TestTileOf(t *testing.T) {
	for n := 1; n <= api.MaxCopies; n++ {
		for tiles := 1; tiles <= 99; tiles++ {
			at := 0
			for tile := 1; tile <= tiles; tile++ {
				length := n / tiles
				if tile <= n%tiles {
					length++
				}
				for range length {
					at++
					if got := tileOf(at, n, tiles); got != tile {
						t.Errorf("tileOf(%d, %d, %d) = %d, want %d", at, n, tiles, got, tile)
					}
				}
			}
			if at != n {
				t.Fatalf("%d copies lie in the tiles, want %d", at, n)
			}
		}
	}
}

// Nothing breaks at what no query and no table asks for.
func TestNoSuchThing(t *testing.T) {
	if got := Outs(queries.Query{}, nil); len(got) != 0 {
		t.Errorf("Outs of no table: %v", got)
	}
	if got := Outs(read(t, "order k show rank"), []api.Change{change(1, 1, 1, 0), change(2, 1, 1, -1), change(3, 1, 1, 1)}); len(got) != 1 {
		t.Errorf("Outs of rows without copies: %v", got)
	}
	if got := tileOf(1, 5, 0); got != 0 {
		t.Errorf("tileOf(1, 5, 0) = %d", got)
	}
}
