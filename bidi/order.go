package bidi

import (
	"slices"

	"widgetry/api"
)

// mostLevel is the greatest level of which Order takes notice.
const mostLevel = 127

// Order returns the indices of the runes in visual order from left to right.
func Order(levels []int) []int {
	if len(levels) > api.MaxText {
		return nil
	}
	order := make([]int, len(levels))
	highest := 0
	for i, level := range levels {
		if level < 0 || level > mostLevel {
			return nil
		}
		order[i] = i
		highest = max(highest, level)
	}
	// The reversals below the lowest odd level cancel each other in pairs, so that all may end at 1.
	for level := highest; level > 0; level-- {
		reverseFrom(order, levels, level)
	}
	return order
}

// reverseFrom reverses each maximal list of indices with at least the level.
// All of them stand where they stood in logical order: every reversal before was one within such a list.
func reverseFrom(order, levels []int, level int) {
	from := 0
	for i, l := range levels {
		if l < level {
			slices.Reverse(order[from:i])
			from = i + 1
		}
	}
	slices.Reverse(order[from:])
}

// Runs returns the ends of the maximal lists of equal levels.
func Runs(levels []int) []int {
	var ends []int
	for i := range levels {
		if i+1 == len(levels) || levels[i+1] != levels[i] {
			ends = append(ends, i+1)
		}
	}
	return ends
}
