// Package fixed is layer 1: exact rounding, scaling and division into parts (see shared/doc/01-fixed.md).
package fixed

import (
	"cmp"
	"slices"

	"widgetry/api"
)

const (
	mostOperand = 1 << 60 // of Floor and Round, and its negative
	mostRatio   = 1 << 16 // the numerator and the denominator of Scale
	mostTotal   = 1 << 30 // of Share
	mostWeight  = 1 << 31 // of Share
)

// Floor returns the greatest integer that is not greater than a/b, or 0 if b is 0 or a number is out of range.
func Floor(a, b int) int {
	if !divisible(a, b) {
		return 0
	}
	return quotient(a, b)
}

// Round returns the integer nearest to a/b, the greater one of two, or 0 if b is 0 or a number is out of range.
func Round(a, b int) int {
	if !divisible(a, b) {
		return 0
	}
	// Half a unit more, rounded down, gives a tie to the greater integer; three times 2^60 is still an int.
	return quotient(2*a+b, 2*b)
}

// Scale returns x * num / den, rounded as by Round.
func Scale(x, num, den int) (int, api.Errno) {
	if !within(x, -api.MaxNumber, api.MaxNumber) || !within(num, 0, mostRatio) || !within(den, 1, mostRatio) {
		return 0, api.ErrRange
	}
	return Round(x*num, den), api.OK
}

// Clamp returns the number from low to high that is nearest to x, or low if there is none.
func Clamp(x, low, high int) int {
	if x < low || high < low {
		return low
	}
	return min(x, high)
}

// Share divides total into parts that are proportional to the weights; their sum is total, or 0 if all weights are 0.
func Share(total int, weights []int) ([]int, api.Errno) {
	if e := checkShare(total, weights); e != api.OK {
		return nil, e
	}
	parts := make([]int, len(weights))
	sum := sumOf(weights)
	if sum == 0 {
		return parts, api.OK
	}
	remainders := make([]int, len(weights))
	for i, w := range weights {
		// The product may exceed the range of Floor, but not that of an int; neither number is negative, so / rounds down.
		parts[i] = total * w / sum
		remainders[i] = total * w % sum
	}
	for _, i := range greatestFirst(remainders)[:total-sumOf(parts)] {
		parts[i]++
	}
	return parts, api.OK
}

func checkShare(total int, weights []int) api.Errno {
	if len(weights) > api.MaxKids {
		return api.ErrTooLong
	}
	if !within(total, 0, mostTotal) {
		return api.ErrRange
	}
	for _, w := range weights {
		if !within(w, 0, mostWeight) {
			return api.ErrRange
		}
	}
	return api.OK
}

// greatestFirst returns the indices of l in descending order of their elements, those of equal elements in ascending order.
func greatestFirst(l []int) []int {
	order := make([]int, len(l))
	for i := range order {
		order[i] = i
	}
	slices.SortStableFunc(order, func(i, j int) int { return cmp.Compare(l[j], l[i]) })
	return order
}

func sumOf(l []int) int {
	sum := 0
	for _, x := range l {
		sum += x
	}
	return sum
}

// divisible reports whether Floor and Round are defined for a and b.
func divisible(a, b int) bool {
	return b != 0 && within(a, -mostOperand, mostOperand) && within(b, -mostOperand, mostOperand)
}

// quotient returns a/b rounded down; b is not 0.
func quotient(a, b int) int {
	q, r := a/b, a%b
	// Go rounds towards 0, which is up if the exact quotient is negative.
	if r != 0 && (r < 0) != (b < 0) {
		q--
	}
	return q
}

func within(x, low, high int) bool {
	return low <= x && x <= high
}
