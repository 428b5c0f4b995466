package panes_test

import (
	"math/rand"
	"slices"
	"testing"

	"panes/api"
	"panes/panes"
)

// copied makes out rows that share no memory with others.
func copied(outs []api.Out) []api.Out {
	made := slices.Clone(outs)
	for i := range made {
		made[i].Vals = slices.Clone(made[i].Vals)
	}
	return made
}

// spoilOuts writes into a list of out rows, the lists of values in it, and all their spare room, that of lists
// of values that stand in spare room too.
func spoilOuts(outs []api.Out) {
	outs = outs[:cap(outs)]
	for i := range outs {
		spoilVals(outs[i].Vals)
		outs[i] = out(77, 77, 77, 77, 77, 77)
	}
}

func spoilVals(vals []api.Value) {
	vals = vals[:cap(vals)]
	for i := range vals {
		vals[i] = value(-77)
	}
}

var ownQueries = []string{
	"order k show rank",
	"order k show number, sum(v, all)",
	"by p order v desc show dense, lag(k, 1), tile(3)",
	"order v show min(k, near 2), number, lead(p, 1), last(v, 1 back to 1 on) top 5",
	"order k show rank top 0",
}

// Whatever the caller writes into what came out, what comes later is as if nothing had been written.
func TestOutsAreTheCallers(t *testing.T) {
	r := rand.New(rand.NewSource(8))
	for i := range 200 {
		query := ownQueries[i%len(ownQueries)]
		v, clean, m := newView(t, query), newView(t, query), model{}
		for range 8 {
			batch := someSmall(r, m)
			next, _, _ := m.after(batch)
			m = next
			want, _, _ := clean.Apply(batch)
			got, _, _ := v.Apply(batch)
			if !sameOuts(got, want) {
				t.Fatalf("%s: Apply(%v) = %v, want %v", query, batch, got, want)
			}
			spoilOuts(got)
			spoil(v.Table())
			spoilOuts(v.Rows())
			wantRows(t, v, clean.Rows()...)
			wantTable(t, v, clean.Table()...)
		}
	}
}

// What the caller holds is changed by nothing that is written into other lists, nor by later calls.
func TestOutsStayAsTheyWere(t *testing.T) {
	for _, query := range ownQueries {
		v := newView(t, query)
		batch := []api.Change{change(0, 1, 2, 2), change(0, 2, 3, 1), change(1, 2, 0, 1), change(1, 3, 5, 3)}
		held := [][]api.Out{told(t, v, batch...), v.Rows(), v.Rows(), told(t, v, change(0, 1, 2, -1), change(0, 0, 0, 1)), v.Rows(), v.Rows()}
		ahead := [][]api.Out{}
		for _, outs := range held {
			ahead = append(ahead, copied(outs))
		}
		told(t, v, change(0, 2, 3, -1), change(1, 3, 5, 1))
		v.Rows()
		for i := range held {
			if !sameOuts(held[i], ahead[i]) {
				t.Errorf("%s: a list of the caller's is %v, was %v", query, held[i], ahead[i])
			}
			spoilOuts(held[i])
		}
	}
}

// The lists of values of one answer are apart: to write into one and its spare room changes no other.
func TestValuesAreApart(t *testing.T) {
	for _, query := range ownQueries {
		v := newView(t, query)
		lists := [][]api.Out{
			told(t, v, change(0, 1, 2, 4), change(0, 2, 3, 3), change(1, 2, 0, 1), change(1, 3, 5, 3)),
			told(t, v, change(0, 1, 2, -1), change(0, 0, 0, 1)),
			v.Rows(),
		}
		for _, outs := range lists {
			for i := range outs {
				want := copied(outs)
				spoilVals(outs[i].Vals)
				_ = append(outs[i].Vals, value(5), value(6), value(7))
				for j := range outs {
					if j != i && !sameOut(outs[j], want[j]) {
						t.Fatalf("%s: to write into the values %d changed those of %d: %v", query, i, j, outs)
					}
				}
				outs[i] = want[i]
			}
			want := copied(outs)
			spoilOuts(outs[len(outs):])
			if !sameOuts(outs, want) {
				t.Errorf("%s: the spare room shares memory with the list: %v, was %v", query, outs, want)
			}
		}
	}
}

// The batch is left as it is, its spare room too, and is not kept.
func TestBatchIsNotKept(t *testing.T) {
	for _, query := range ownQueries {
		v, clean := newView(t, query), newView(t, query)
		batch := []api.Change{change(0, 2, 3, 1), change(0, 1, 2, 2), change(0, 2, 3, 1)}
		whole := slices.Concat(batch, times(change(7, 7, 7, 7), 60))
		ahead := slices.Clone(whole)
		told(t, clean, batch...)
		told(t, v, whole[:len(batch)]...)
		if !slices.Equal(whole, ahead) {
			t.Errorf("Apply(%v) wrote into its batch or the spare room: %v", batch, whole)
		}
		spoil(whole)
		wantRows(t, v, clean.Rows()...)
		wantTold(t, v, []api.Change{change(0, 2, 3, -1)}, told(t, clean, change(0, 2, 3, -1))...)
	}
}

func TestViewsTellApart(t *testing.T) {
	query := "by p order k show number, sum(v, all)"
	a, b := newView(t, query), newView(t, query)
	wantTold(t, a, []api.Change{change(1, 0, 4, 1)}, out(1, 0, 4, 1, 1, 4))
	wantRows(t, b)
	c := newView(t, "order v show rank top 1")
	wantTold(t, b, []api.Change{change(1, 0, 5, 2)}, out(1, 0, 5, 1, 1, 10), out(1, 0, 5, 1, 2, 10))
	wantTold(t, c, []api.Change{change(1, 0, 6, 1)}, out(1, 0, 6, 1, 1))
	spoilOuts(b.Rows())
	wantTold(t, a, []api.Change{change(1, 0, 4, -1)}, out(1, 0, 4, -1, 1, 4))
	wantRows(t, a)
	wantRows(t, b, out(1, 0, 5, 1, 1, 10), out(1, 0, 5, 1, 2, 10))
	wantRows(t, c, out(1, 0, 6, 1, 1))
}

// Views whose calls come by turns tell what they tell one by one.
func TestViewsByTurns(t *testing.T) {
	r := rand.New(rand.NewSource(9))
	var views []*panes.View
	var queries []drawn
	var models []model
	for range 20 {
		q := someQuery(r)
		views, queries, models = append(views, newView(t, q.text)), append(queries, q), append(models, model{})
	}
	for range 400 {
		i := r.Intn(len(views))
		batch := someSmall(r, models[i])
		next, _, _ := models[i].after(batch)
		models[i] = next
		views[i].Apply(batch)
		j := r.Intn(len(views))
		wantRows(t, views[j], queries[j].view(models[j])...)
	}
}
