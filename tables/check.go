package tables

import "panes/api"

// checkBatch finds what is wrong with a batch whatever the table has: an
// error with the number of its change, or OK and 0.
func checkBatch(batch []api.Change) (api.Errno, int) {
	if len(batch) > api.MaxBatch {
		return api.ErrLong, 0
	}
	for i := 0; i < len(batch); i++ {
		e := checkChange(batch[i])
		if e != api.OK {
			return e, i
		}
	}
	return api.OK, 0
}

func checkChange(c api.Change) api.Errno {
	if !isValue(c.Row.P) || !isValue(c.Row.K) || !isValue(c.Row.V) {
		return api.ErrRow
	}
	if c.N == 0 || c.N > api.MaxCopies || c.N < -api.MaxCopies {
		return api.ErrCount
	}
	return api.OK
}

func isValue(n int) bool {
	return n >= -api.MaxValue && n <= api.MaxValue
}
