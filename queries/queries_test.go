package queries

import (
	"reflect"
	"testing"

	"panes/api"
)

func TestReadWhole(t *testing.T) {
	got, e, at := Read("by p, k order v desc, k show dense, tile(4), lead(v, 7), min(k, 2 back to end) top 3 from 5")
	want := Query{
		By:   []Col{ColP, ColK},
		Keys: []Key{{Col: ColV, Desc: true}, {Col: ColK}},
		Funcs: []Func{
			{Kind: Dense},
			{Kind: Tile, Num: 4},
			{Kind: Lead, Col: ColV, Num: 7},
			{Kind: Min, Col: ColK, Frame: Frame{Kind: Between, From: Edge{Kind: Back, Num: 2}, To: Edge{Kind: End}}},
		},
		HasTop: true, Top: 3, From: 5,
	}
	if !reflect.DeepEqual(got, want) || e != api.OK || at != 0 {
		t.Errorf("Read = %+v, %d, %d, want %+v", got, e, at, want)
	}
}

func TestReadFuncs(t *testing.T) {
	for _, c := range []struct {
		text string
		want Func
	}{
		{"number", Func{Kind: Number}},
		{"rank", Func{Kind: Rank}},
		{"lag(p, 1)", Func{Kind: Lag, Col: ColP, Num: 1}},
		{"count(k, all)", Func{Kind: Count, Col: ColK, Frame: Frame{Kind: All}}},
		{"sum(v, peers)", Func{Kind: Sum, Col: ColV, Frame: Frame{Kind: Peers}}},
		{"max(v, near 06)", Func{Kind: Max, Col: ColV, Frame: Frame{Kind: Near, Num: 6}}},
		{"first(p, start to here)", Func{Kind: First, Frame: Frame{Kind: Between, From: Edge{Kind: Start}, To: Edge{Kind: Here}}}},
		{"last(p, here to 99 on)", Func{Kind: Last, Frame: Frame{Kind: Between, From: Edge{Kind: Here}, To: Edge{Kind: On, Num: 99}}}},
	} {
		got, e, at := Read("order k show " + c.text)
		want := Query{Keys: []Key{{Col: ColK}}, Funcs: []Func{c.want}}
		if !reflect.DeepEqual(got, want) || e != api.OK || at != 0 {
			t.Errorf("Read of %s = %+v, %d, %d, want %+v", c.text, got, e, at, want)
		}
	}
}

// Beside an error there is no half-read query.
func TestReadWrong(t *testing.T) {
	for _, c := range []struct {
		text string
		e    api.Errno
		at   int
	}{
		{"by p order k show tile(2) top 3 from 5 6", api.ErrSyntax, 39},
		{"by p order k show tile(2) top 3 from 567", api.ErrToken, 37},
		{"by p order k show rank, rank, rank, rank, rank", api.ErrMany, 42},
		{"by p order k, k show rank", api.ErrTwice, 14},
		{"by p order k show tile(0)", api.ErrArg, 23},
	} {
		got, e, at := Read(c.text)
		if !reflect.DeepEqual(got, Query{}) || e != c.e || at != c.at {
			t.Errorf("Read(%q) = %+v, %d, %d, want %d, %d", c.text, got, e, at, c.e, c.at)
		}
	}
}

func TestColOf(t *testing.T) {
	r := api.Row{P: 7, K: -8, V: 9}
	if ColP.Of(r) != 7 || ColK.Of(r) != -8 || ColV.Of(r) != 9 {
		t.Errorf("Of(%v) = %d, %d, %d", r, ColP.Of(r), ColK.Of(r), ColV.Of(r))
	}
}
