package panes_test

import (
	"strings"
	"testing"

	"panes/api"
	"panes/panes"
)

func wantPlain(t *testing.T, query, plain string) {
	t.Helper()
	s, e, at := panes.Plan(query)
	if s != plain || e != api.OK || at != 0 {
		t.Errorf("Plan(%q) = %q, %d, %d, want %q, 0, 0", query, s, e, at, plain)
	}
}

func wantError(t *testing.T, query string, e api.Errno, at int) {
	t.Helper()
	s, gotE, gotAt := panes.Plan(query)
	if s != "" || gotE != e || gotAt != at {
		t.Errorf("Plan(%.90q) = %q, %d, %d, want \"\", %d, %d", query, s, gotE, gotAt, e, at)
	}
}

// fill lays blanks behind a text until it has so many bytes.
func fill(text string, length int) string {
	return text + strings.Repeat(" ", length-len(text))
}

func TestPlanExamples(t *testing.T) {
	wantPlain(t, "order k show number", "order k show number")
	wantPlain(t, " by p,k order v desc ,k show sum( v,02 back to here ),lag(k,1)top 3 from 0",
		"by p, k order v desc, k show sum(v, 2 back to here), lag(k, 1) top 3")
	wantError(t, "", api.ErrSyntax, 0)
	wantError(t, "order k", api.ErrSyntax, 7)
	wantError(t, "order k show number(", api.ErrSyntax, 19)
	wantError(t, "order k show tile(100)", api.ErrToken, 18)
	wantError(t, "order k show tile(0)", api.ErrArg, 18)
	wantError(t, "by p, p order k show rank", api.ErrTwice, 6)
	wantError(t, "order k, k desc show rank", api.ErrTwice, 9)
}

// Each of these is its own plain form.
func TestPlanOrdinary(t *testing.T) {
	for _, q := range []string{
		"by p order k show number",
		"by v order p show rank",
		"by k, v, p order v desc show dense",
		"by p order p show rank",
		"order p desc, k, v desc show number",
		"order v, p show tile(1)",
		"order k show tile(99), tile(10)",
		"order k show lag(p, 0), lead(v, 99)",
		"order k show number, number, number, number",
		"order k show count(p, all), sum(k, peers), min(v, near 0), max(p, near 99)",
		"order k show first(k, start to end), last(v, end to start)",
		"order k show sum(v, here to here), sum(v, 1 back to 1 on), sum(v, 99 on to 99 back)",
		"order k show sum(v, 0 on to 0 back), count(v, start to 3 back), max(v, 3 on to end)",
		"order k show rank top 0",
		"order k show rank top 0 from 1",
		"order k show lag(k, 1) top 10 from 99",
	} {
		wantPlain(t, q, q)
	}
}

func TestPlanBlanks(t *testing.T) {
	plain := "by p, k order v desc, p show tile(3), sum(v, 1 back to 2 on) top 5 from 6"
	for _, q := range []string{
		"by p,k order v desc,p show tile(3),sum(v,1back to2on)top5from6",
		"by p , k order v desc , p show tile ( 3 ) , sum ( v , 1 back to 2 on ) top 5 from 6",
		"\n\nby\np\n,\nk\norder\nv\ndesc\n,\np\nshow\ntile\n(\n3\n)\n,\nsum\n(\nv\n,\n1\nback\nto\n2\non\n)\ntop\n5\nfrom\n6\n\n",
		"  by p,\n k\n \norder v desc, p show tile(3), sum(v, 1 back to 2 on) top 5 from 6 \n ",
	} {
		wantPlain(t, q, plain)
	}
	// Without a blank two words are one.
	wantError(t, "by porder k show rank", api.ErrSyntax, 3)
	wantError(t, "orderk show rank", api.ErrSyntax, 0)
	wantError(t, "order k show rank top 1 1", api.ErrSyntax, 24)
	wantError(t, "order k show rank top 1\n1", api.ErrSyntax, 24)
	wantError(t, "or der k show rank", api.ErrSyntax, 0)
}

func TestPlanNoughts(t *testing.T) {
	wantPlain(t, "order k show tile(01), lag(k, 00), lead(k, 09)", "order k show tile(1), lag(k, 0), lead(k, 9)")
	wantPlain(t, "order k show sum(v, near 00), sum(v, 00 back to 05 on)", "order k show sum(v, near 0), sum(v, 0 back to 5 on)")
	wantPlain(t, "order k show tile(10), tile(90)", "order k show tile(10), tile(90)")
	wantPlain(t, "order k show rank top 00", "order k show rank top 0")
	wantPlain(t, "order k show rank top 07 from 08", "order k show rank top 7 from 8")
	wantPlain(t, "order k show rank top 1 from 0", "order k show rank top 1")
	wantPlain(t, "order k show rank top 1 from 00", "order k show rank top 1")
	wantPlain(t, "order k show rank top 0 from 0", "order k show rank top 0")
	wantPlain(t, "order k show rank top 1 from 10", "order k show rank top 1 from 10")
	wantPlain(t, "order k show rank top 1 from 01", "order k show rank top 1 from 1")
}

func TestPlanMaxText(t *testing.T) {
	query := "order k show rank"
	wantPlain(t, fill(query, api.MaxText), query)
	wantPlain(t, strings.Repeat("\n", api.MaxText-len(query))+query, query)
	wantError(t, fill(query, api.MaxText+1), api.ErrLong, 0)
	wantError(t, strings.Repeat(" ", api.MaxText), api.ErrSyntax, api.MaxText)
	wantError(t, strings.Repeat(" ", api.MaxText+1), api.ErrLong, 0)
	wantError(t, fill("", api.MaxText-1)+"!", api.ErrToken, api.MaxText-1)
	wantError(t, fill("", api.MaxText)+"!", api.ErrLong, 0)
	wantError(t, strings.Repeat("x", 5000000), api.ErrLong, 0)
}

func TestPlanMaxDigits(t *testing.T) {
	for _, q := range []string{
		"order k show tile(#)",
		"order k show lag(k, #)",
		"order k show lead(v, #)",
		"order k show sum(v, near #)",
		"order k show sum(v, # back to here)",
		"order k show sum(v, here to # on)",
		"order k show rank top #",
		"order k show rank top 1 from #",
	} {
		with := strings.Replace(q, "#", "99", 1)
		wantPlain(t, with, with)
		place := strings.Index(q, "#")
		wantError(t, strings.Replace(q, "#", "100", 1), api.ErrToken, place)
		wantError(t, strings.Replace(q, "#", "001", 1), api.ErrToken, place)
		wantError(t, strings.Replace(q, "#", "000", 1), api.ErrToken, place)
		wantError(t, strings.Replace(q, "#", strings.Repeat("9", 150), 1), api.ErrToken, place)
	}
}

func TestPlanMaxWord(t *testing.T) {
	wantError(t, "abcdefgh", api.ErrSyntax, 0)
	wantError(t, "abcdefghi", api.ErrToken, 0)
	wantError(t, "order k show numberxx", api.ErrSyntax, 13)
	wantError(t, "order k show numberxxx", api.ErrToken, 13)
	wantError(t, "order k showrank", api.ErrSyntax, 8)
	wantError(t, "order k showcount(k, all)", api.ErrToken, 8)
	wantError(t, "order k show rank 9zzzzzzzzz", api.ErrToken, 19)
}

func TestPlanMaxShow(t *testing.T) {
	wantPlain(t, "order k show rank, dense, tile(1), sum(v, all)", "order k show rank, dense, tile(1), sum(v, all)")
	wantError(t, "order k show rank, dense, tile(1), sum(v, all), number", api.ErrMany, 48)
	wantError(t, "order k show rank,rank,rank,rank,\n lag(k, 1)", api.ErrMany, 35)
	wantError(t, "order k show rank,rank,rank,rank,dense,dense,dense top 1 from 1", api.ErrMany, 33)
}

// A byte that is of no token is found wherever it stands.
func TestPlanBytes(t *testing.T) {
	for b := 0; b < 256; b++ {
		c := string([]byte{byte(b)})
		behind := "order k show rank " + c
		inside := "order k " + c + " show rank"
		switch {
		case c == " " || c == "\n":
			wantPlain(t, behind, "order k show rank")
			wantPlain(t, inside, "order k show rank")
		case c == ",":
			wantError(t, inside, api.ErrSyntax, 10)
			wantError(t, behind, api.ErrSyntax, 19)
		case strings.Contains("abcdefghijklmnopqrstuvwxyz0123456789()", c):
			wantError(t, inside, api.ErrSyntax, 8)
			wantError(t, behind, api.ErrSyntax, 18)
		default:
			wantError(t, c, api.ErrToken, 0)
			wantError(t, inside, api.ErrToken, 8)
			wantError(t, behind, api.ErrToken, 18)
			wantError(t, "order k show ra"+c+"nk", api.ErrToken, 15)
		}
	}
	wantError(t, "order k show rank\u00a0", api.ErrToken, 17)
	wantError(t, "order k show lag(k, -1)", api.ErrToken, 20)
	wantError(t, "order k show Rank", api.ErrToken, 13)
	wantError(t, "order k show rank ? 100", api.ErrToken, 18)
	wantError(t, "order k show rank 100 ?", api.ErrToken, 18)
}

func TestPlanSyntax(t *testing.T) {
	for _, c := range []struct {
		query string
		at    int
	}{
		{" \n ", 3}, {"k", 0}, {"1", 0}, {"(", 0}, {"show rank", 0}, {"top 1", 0},
		{"by", 2}, {"by ", 3}, {"by order", 3}, {"by p", 4}, {"by p  ", 6}, {"by p,", 5}, {"by p, order", 6}, {"by , p", 3},
		{"by p k", 5}, {"by p desc", 5}, {"by p show", 5}, {"by (p)", 3}, {"by p by k", 5},
		{"order", 5}, {"order show", 6}, {"order desc", 6}, {"order k,", 8}, {"order k, show", 9}, {"order k v", 8},
		{"order k desc", 12}, {"order k desc desc", 13}, {"order k by p", 8}, {"order 1", 6}, {"order kk", 6},
		{"order k show", 12}, {"order k show ", 13}, {"order k show show", 13}, {"order k show k", 13}, {"order k show top 1", 13},
		{"order k show rank,", 18}, {"order k show rank, top", 19}, {"order k show ,rank", 13}, {"order k show rank dense", 18},
		{"order k show rank()", 17}, {"order k show dense(", 18}, {"order k show number desc", 20}, {"order k show rank)", 17},
		{"order k show tile", 17}, {"order k show tile,", 17}, {"order k show tile 1", 18}, {"order k show tile()", 18},
		{"order k show tile(k)", 18}, {"order k show tile(1", 19}, {"order k show tile(1,", 19}, {"order k show tile(1 1)", 20},
		{"order k show lag", 16}, {"order k show lag()", 17}, {"order k show lag(1)", 17}, {"order k show lag(k", 18},
		{"order k show lag(k)", 18}, {"order k show lag(k 1)", 19}, {"order k show lag(k,)", 19}, {"order k show lag(k, 1", 21},
		{"order k show lag(k, 1,", 21}, {"order k show lag(k, v)", 20}, {"order k show lag(k, all)", 20}, {"order k show lead(v, 1 back)", 23},
		{"order k show count", 18}, {"order k show count()", 19}, {"order k show count(all)", 19}, {"order k show sum(v)", 18},
		{"order k show sum(v, ", 20}, {"order k show sum(v, k)", 20}, {"order k show sum(v, 1)", 21}, {"order k show sum(v, 1 1", 22},
		{"order k show sum(v, all", 23}, {"order k show sum(v, all to", 24}, {"order k show sum(v, peers to", 26},
		{"order k show sum(v, near", 24}, {"order k show sum(v, near here", 25}, {"order k show sum(v, near 1 to", 27},
		{"order k show sum(v, start)", 25}, {"order k show sum(v, end,", 23}, {"order k show sum(v, here here", 25},
		{"order k show sum(v, here to)", 27}, {"order k show sum(v, here to all)", 28}, {"order k show sum(v, here to near 1)", 28},
		{"order k show sum(v, here to 1)", 29}, {"order k show sum(v, here to here to", 33}, {"order k show sum(v, back", 20},
		{"order k show sum(v, 1 back)", 26}, {"order k show sum(v, 1 on on", 25}, {"order k show sum(v, to end)", 20},
		{"order k show rank top", 21}, {"order k show rank top from", 22}, {"order k show rank top 1,", 23}, {"order k show rank top (1)", 22},
		{"order k show rank from 1", 18}, {"order k show rank top 1 from", 28}, {"order k show rank top 1 from k", 29},
		{"order k show rank top 1 top 1", 24}, {"order k show rank top 1 from 1 from 1", 31}, {"order k show rank top 1 from 0 1", 31},
	} {
		wantError(t, c.query, api.ErrSyntax, c.at)
	}
}

func TestPlanTwice(t *testing.T) {
	wantError(t, "by k, p, k order k show rank", api.ErrTwice, 9)
	wantError(t, "by p,k,v,v,v,p order k show rank", api.ErrTwice, 9)
	wantError(t, "by v, v order k, k show rank", api.ErrTwice, 6)
	wantError(t, "by v order p desc, k, \n p show rank", api.ErrTwice, 24)
	wantError(t, "order k desc, k desc show rank", api.ErrTwice, 14)
	wantError(t, "order p, v, k, v, p show rank", api.ErrTwice, 15)
	wantPlain(t, "by p, k, v order p, k, v show rank", "by p, k, v order p, k, v show rank")
	wantPlain(t, "order k show sum(k, all), sum(k, all)", "order k show sum(k, all), sum(k, all)")
}

func TestPlanArg(t *testing.T) {
	wantError(t, "order k show tile(00)", api.ErrArg, 18)
	wantError(t, "order k show tile( \n0)", api.ErrArg, 20)
	wantError(t, "order k show tile(1), rank, tile(0), tile(00)", api.ErrArg, 33)
	wantError(t, "by k order k show lag(k, 0), tile(0) top 0 from 0", api.ErrArg, 34)
}

func TestPlanFirstNamed(t *testing.T) {
	many := "by p, p order k, k show tile(0), rank, rank, rank, rank"
	wantError(t, fill(many+" rank ?", api.MaxText+1), api.ErrLong, 0)
	wantError(t, fill(many+" rank ?", api.MaxText), api.ErrToken, len(many)+6)
	wantError(t, many+" rank", api.ErrSyntax, len(many)+1)
	wantError(t, many+",", api.ErrSyntax, len(many)+1)
	wantError(t, many, api.ErrMany, 51)
	wantError(t, "by p, p order k, k show tile(0), rank", api.ErrTwice, 6)
	wantError(t, "by p order k, k show tile(0), rank", api.ErrTwice, 14)
	wantError(t, "by p order k show tile(0), rank", api.ErrArg, 23)
	wantError(t, "order k show rank, rank, rank, rank, tile(0)", api.ErrMany, 37)
	wantError(t, "by p, p", api.ErrSyntax, 7)
	wantError(t, "order k show tile(0", api.ErrSyntax, 19)
	wantError(t, "order x show rank \t", api.ErrToken, 18)
}

// Plan keeps nothing: what it answered ahead does not show in what it answers.
func TestPlanTwoCalls(t *testing.T) {
	first, _, _ := panes.Plan("by p order k show rank, dense top 3 from 4")
	wantError(t, "by p, p order k show rank", api.ErrTwice, 6)
	wantPlain(t, "order v show number", "order v show number")
	wantPlain(t, "by p order k show rank, dense top 3 from 4", first)
}
