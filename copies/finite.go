package copies

import "widgetry/api"

// A value may contain itself. The document promises nothing for a value that is nested in more lists than mostLists, or that is a result of more than mostValues values, of 56 bytes each.
const (
	mostLists  = 1 << 16
	mostValues = (1<<31 - 1) / 56
)

// isFinite reports whether v is within these bounds.
func isFinite(v api.Value) bool {
	left := mostValues
	return take(v, 0, &left)
}

// take counts a value that is in that many lists down, and its elements, and reports whether all of them were left.
func take(v api.Value, lists int, left *int) bool {
	*left--
	if *left < 0 || lists > mostLists {
		return false
	}
	for _, x := range v.L {
		if !take(x, lists+1, left) {
			return false
		}
	}
	return true
}
