package outs

import (
	"math/rand"
	"reflect"
	"testing"

	"panes/api"
)

func n(x int) api.Value { return api.Value{Ok: true, N: x} }

func out(p, k, v, copies int, vals ...api.Value) api.Out {
	return api.Out{Row: api.Row{P: p, K: k, V: v}, Vals: vals, N: copies}
}

func wantList(t *testing.T, s *Sums, want ...api.Out) {
	t.Helper()
	if got := s.List(); len(got)+len(want) > 0 && !reflect.DeepEqual(got, want) {
		t.Errorf("List() = %v, want %v", got, want)
	}
}

func TestListOrder(t *testing.T) {
	none := api.Value{}
	inOrder := []api.Out{
		out(-3, 9, 9, 1, n(9), n(9)), out(0, -1, 9, 2, n(9), n(9)), out(0, 0, -1, -1, n(9), n(9)),
		out(0, 0, 0, 1, none, none), out(0, 0, 0, -4, none, n(-40000)), out(0, 0, 0, 1, none, n(3)),
		out(0, 0, 0, 1, n(-40000), none), out(0, 0, 0, 1, n(-40000), n(-40000)), out(0, 0, 0, 1, n(-1), n(8)),
		out(0, 0, 0, 1, n(0), none), out(0, 0, 0, 1, n(0), n(0)), out(0, 0, 0, 7, n(2), n(1)),
		out(0, 0, 0, 1, n(10), none), out(0, 0, 1, 1, none, none), out(1, -5, -5, 1, none, none),
	}
	r := rand.New(rand.NewSource(1))
	for range 200 {
		var s Sums
		for _, i := range r.Perm(len(inOrder)) {
			s.Add(inOrder[i : i+1])
		}
		wantList(t, &s, inOrder...)
	}
}

func TestAddAndTake(t *testing.T) {
	var s Sums
	wantList(t, &s)
	s.Add([]api.Out{out(1, 0, 0, 1, n(1)), out(1, 0, 0, 2, n(1)), out(1, 0, 0, 1, n(2)), out(0, 0, 0, 1, n(5))})
	wantList(t, &s, out(0, 0, 0, 1, n(5)), out(1, 0, 0, 3, n(1)), out(1, 0, 0, 1, n(2)))
	s.Take([]api.Out{out(1, 0, 0, 3, n(1)), out(0, 0, 0, 2, n(5)), out(2, 0, 0, 1, n(5))})
	wantList(t, &s, out(0, 0, 0, -1, n(5)), out(1, 0, 0, 1, n(2)), out(2, 0, 0, -1, n(5)))
	s.Take([]api.Out{out(0, 0, 0, -1, n(5)), out(1, 0, 0, 1, n(2)), out(2, 0, 0, -1, n(5))})
	wantList(t, &s)
}

// What is handed in is neither kept nor changed, and what comes out is not kept.
func TestOwn(t *testing.T) {
	var s Sums
	in := []api.Out{out(1, 0, 0, 1, n(1), n(2)), out(0, 0, 0, 1, n(3), n(4)), out(1, 0, 0, 1, n(1), n(2))}
	s.Add(in)
	if in[0].N != 1 || in[1].Row.P != 0 || in[2].Vals[1].N != 2 {
		t.Errorf("Add changed its list: %v", in)
	}
	in[0].Vals[0].N, in[1].Vals[1].N, in[1].N = 70, 71, 72
	first := s.List()
	wantList(t, &s, out(0, 0, 0, 1, n(3), n(4)), out(1, 0, 0, 2, n(1), n(2)))
	first[0].Vals[0].N, first[1].Vals[1].N, first[1].N = 80, 81, 82
	wantList(t, &s, out(0, 0, 0, 1, n(3), n(4)), out(1, 0, 0, 2, n(1), n(2)))
}
