package rows

import (
	"testing"

	"panes/api"
)

func TestIsAhead(t *testing.T) {
	inOrder := []api.Row{
		{P: -1000, K: 1000, V: 1000}, {P: -1, K: 5, V: 5}, {P: 0, K: -2, V: 9}, {P: 0, K: 0, V: -1},
		{P: 0, K: 0, V: 0}, {P: 0, K: 0, V: 3}, {P: 0, K: 1, V: -1000}, {P: 10, K: -1000, V: -1000},
	}
	for i, a := range inOrder {
		for j, b := range inOrder {
			if got := IsAhead(a, b); got != (i < j) {
				t.Errorf("IsAhead(%v, %v) = %v", a, b, got)
			}
		}
	}
}
