package panes_test

import (
	"regexp"
	"strings"
	"testing"

	"panes/api"
	"panes/panes"
)

// The grammar as the document tells it. A word that is no key stands for itself; NUM is any row of digits.
var grammar = map[string][]string{
	"QUERY": {"by COLS ORDER", "ORDER"},
	"ORDER": {"order KEYS show FUNCS", "order KEYS show FUNCS top NUM", "order KEYS show FUNCS top NUM from NUM"},
	"COLS":  {"COL", "COL , COLS"},
	"KEYS":  {"KEY", "KEY , KEYS"},
	"FUNCS": {"FUNC", "FUNC , FUNCS"},
	"COL":   {"p", "k", "v"},
	"KEY":   {"COL", "COL desc"},
	"FUNC": {"number", "rank", "dense", "tile ( NUM )", "lag ( COL , NUM )", "lead ( COL , NUM )",
		"OVER ( COL , FRAME )"},
	"OVER":  {"count", "sum", "min", "max", "first", "last"},
	"FRAME": {"all", "peers", "near NUM", "EDGE to EDGE"},
	"EDGE":  {"start", "end", "here", "NUM back", "NUM on"},
}

var vocabulary = strings.Fields("by order show top from p k v desc number rank dense tile lag lead " +
	"count sum min max first last all peers near to start end here back on ( ) , 0 00 07 12 x")

var digits = regexp.MustCompile(`^[0-9]+$`)

// after adds to rests all that may follow, if the token stands where the symbols are awaited.
func after(symbols, token string, rests map[string]bool) {
	head, tail, _ := strings.Cut(symbols, " ")
	if head == "" {
		return
	}
	if head == token || head == "NUM" && digits.MatchString(token) {
		rests[tail] = true
	}
	for _, choice := range grammar[head] {
		after(strings.TrimSpace(choice+" "+tail), token, rests)
	}
}

// wrongToken tells the number of the first token with which no query begins; how many there are, if the
// tokens end too early; -1, if they are a query.
func wrongToken(tokens []string) int {
	awaited := map[string]bool{"QUERY": true}
	for i, token := range tokens {
		rests := map[string]bool{}
		for symbols := range awaited {
			after(symbols, token, rests)
		}
		if len(rests) == 0 {
			return i
		}
		awaited = rests
	}
	if awaited[""] {
		return -1
	}
	return len(tokens)
}

// section tells from where to where the tokens stand that come behind a word, up to another one.
func section(tokens []string, word, end string) (int, int) {
	from := 0
	for i, token := range tokens {
		if token == word {
			from = i + 1
		} else if from > 0 && token == end {
			return from, i
		}
	}
	if from == 0 {
		return 0, 0
	}
	return from, len(tokens)
}

func fifthFunc(tokens []string) int {
	from, to := section(tokens, "show", "top")
	depth, commas := 0, 0
	for i := from; i < to; i++ {
		switch tokens[i] {
		case "(":
			depth++
		case ")":
			depth--
		case ",":
			if depth == 0 {
				commas++
			}
			if commas == api.MaxShow {
				return i + 1
			}
		}
	}
	return -1
}

func secondCol(tokens []string) int {
	for _, s := range [][2]string{{"by", "order"}, {"order", "show"}} {
		from, to := section(tokens, s[0], s[1])
		seen := map[string]bool{}
		for i := from; i < to; i++ {
			if tokens[i] != "," && tokens[i] != "desc" && seen[tokens[i]] {
				return i
			}
			seen[tokens[i]] = true
		}
	}
	return -1
}

func emptyTile(tokens []string) int {
	for i, token := range tokens {
		if i >= 2 && tokens[i-2] == "tile" && strings.Trim(token, "0") == "" {
			return i
		}
	}
	return -1
}

func plainTokens(tokens []string) string {
	text := ""
	for i, token := range tokens {
		if digits.MatchString(token) && token != "0" {
			token = strings.TrimLeft(token[:len(token)-1], "0") + token[len(token)-1:]
		}
		if i > 0 && tokens[i-1] != "(" && !strings.Contains("(),", token) {
			text += " "
		}
		text += token
	}
	return strings.TrimSuffix(text, " from 0")
}

// wanted tells what the document asks for at a text of these tokens with these places.
func wanted(tokens []string, places []int, length int) (string, api.Errno, int) {
	places = append(places[:len(places):len(places)], length)
	if i := wrongToken(tokens); i >= 0 {
		return "", api.ErrSyntax, places[i]
	}
	if i := fifthFunc(tokens); i >= 0 {
		return "", api.ErrMany, places[i]
	}
	if i := secondCol(tokens); i >= 0 {
		return "", api.ErrTwice, places[i]
	}
	if i := emptyTile(tokens); i >= 0 {
		return "", api.ErrArg, places[i]
	}
	return plainTokens(tokens), api.OK, 0
}

// compare asks Plan for a text of these tokens, and counts the answers of each kind.
func compare(t *testing.T, tokens []string, counts *[11]int) {
	t.Helper()
	for _, blank := range []string{" ", " \n"} {
		text, places := "", []int{}
		for _, token := range tokens {
			places = append(places, len(text))
			text += token + blank
		}
		if len(text) > api.MaxText {
			continue
		}
		s, e, at := wanted(tokens, places, len(text))
		gotS, gotE, gotAt := panes.Plan(text)
		counts[e]++
		if gotS != s || gotE != e || gotAt != at {
			t.Fatalf("Plan(%q) = %q, %d, %d, want %q, %d, %d", text, gotS, gotE, gotAt, s, e, at)
		}
	}
}

func splice(tokens []string, from, to int, with ...string) []string {
	made := append([]string{}, tokens[:from]...)
	made = append(made, with...)
	return append(made, tokens[to:]...)
}

// Queries, and all that come of them by one token less, more or other, against the grammar itself.
func TestPlanAgainstGrammar(t *testing.T) {
	counts := [11]int{}
	for _, q := range []string{
		"order k show number",
		"by p , k order v desc , k show sum ( v , 02 back to here ) , lag ( k , 1 ) top 3 from 0",
		"by v order p , k desc , v show tile ( 4 ) , lead ( v , 07 ) , count ( p , all ) , min ( k , peers ) top 12",
		"order v desc , p show max ( v , near 00 ) , first ( k , start to 9 on ) , last ( p , here to end ) top 0 from 5",
		"by k , p , v order k show rank , dense , tile ( 1 ) , tile ( 0 ) , number",
		"by k , p , k order v , v show rank , tile ( 00 )",
		"order p show sum ( v , start to end ) , rank , sum ( k , 1 on to 2 on ) , tile ( 5 ) , lag ( k , 0 ) , dense top 1",
		"order k , p , k show tile ( 2 ) , tile ( 00 ) , tile ( 0 )",
	} {
		tokens := strings.Fields(q)
		compare(t, tokens, &counts)
		for i := range tokens {
			compare(t, tokens[:i], &counts)
			compare(t, splice(tokens, i, i+1), &counts)
			for j := i; j < len(tokens); j++ {
				compare(t, splice(tokens, i, j), &counts)
			}
		}
		for _, word := range vocabulary {
			for i := 0; i <= len(tokens); i++ {
				compare(t, splice(tokens, i, i, word), &counts)
				if i < len(tokens) {
					compare(t, splice(tokens, i, i+1, word), &counts)
				}
			}
		}
	}
	for _, e := range []api.Errno{api.OK, api.ErrSyntax, api.ErrMany, api.ErrTwice, api.ErrArg} {
		if counts[e] < 20 {
			t.Errorf("only %d texts are answered by %d", counts[e], e)
		}
	}
}

// Each row of three words of some, from the beginning and behind what a query begins with.
func TestPlanShortRows(t *testing.T) {
	counts := [11]int{}
	words := strings.Fields("by order show top from p desc rank tile lag sum all near to here back ( ) , 00")
	for _, head := range []string{"", "order k", "order k show", "order k show sum ( v ,", "order k show rank top"} {
		tokens := strings.Fields(head)
		for _, a := range words {
			for _, b := range words {
				for _, c := range words {
					compare(t, splice(tokens, len(tokens), len(tokens), a, b, c), &counts)
				}
			}
		}
	}
}

// Plan ends without a panic at any bytes, and its plain forms are their own plain forms.
func TestPlanAnyBytes(t *testing.T) {
	base := "by p order k desc show sum(v, 1 back to here), tile(3) top 3 from 4"
	for i := 0; i <= len(base); i++ {
		for b := 0; b < 256; b++ {
			for _, rest := range []string{base[i:], base[min(i+1, len(base)):], ""} {
				text := base[:i] + string([]byte{byte(b)}) + rest
				s, e, at := panes.Plan(text)
				switch {
				case e == api.OK:
					wantPlain(t, s, s)
				case s != "" || at < 0 || at > len(text):
					t.Errorf("Plan(%q) = %q, %d, %d", text, s, e, at)
				}
			}
		}
	}
}
