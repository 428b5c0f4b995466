// Package rows tells the order of rows.
package rows

import "panes/api"

// IsAhead says whether a row comes ahead of another one.
func IsAhead(a, b api.Row) bool {
	if a.P != b.P {
		return a.P < b.P
	}
	if a.K != b.K {
		return a.K < b.K
	}
	return a.V < b.V
}
