package box

import (
	"widgetry/api"
	"widgetry/fixed"
)

const mostFactor = 1000 // the greatest Grow and Shrink

// division is a space that is divided among elements. An element whose size is final is frozen.
type division struct {
	space    int // without the gaps
	elements []api.Flex
	sign     int   // 1 if the elements grow, -1 if they shrink
	weights  []int // 0 if the element is frozen, so that it has no part in what is shared
	sizes    []int // Basis if the element is not frozen
}

func checkResolve(available, gap int, l []api.Flex) api.Errno {
	if len(l) > api.MaxKids {
		return api.ErrTooLong
	}
	if !lengths(available, gap) {
		return api.ErrRange
	}
	for _, f := range l {
		if !lengths(f.Basis, f.Min, f.Max) || !within(f.Grow, 0, mostFactor) || !within(f.Shrink, 0, mostFactor) {
			return api.ErrRange
		}
	}
	return api.OK
}

// newDivision returns the division before anything is shared: only those elements are not frozen that can change in the direction in which all change.
func newDivision(space int, l []api.Flex) *division {
	d := &division{space: space, elements: l, sign: 1, weights: make([]int, len(l)), sizes: naturalSizes(l)}
	if sumOf(d.sizes) > space {
		d.sign = -1
	}
	for i, f := range l {
		// An element whose limits change its basis against the direction keeps its natural size.
		if w := d.weight(f); w > 0 && d.sign*(d.sizes[i]-f.Basis) >= 0 {
			d.weights[i], d.sizes[i] = w, f.Basis
		}
	}
	return d
}

func naturalSizes(l []api.Flex) []int {
	sizes := make([]int, len(l))
	for i, f := range l {
		sizes[i] = limited(f, f.Basis)
	}
	return sizes
}

func (d *division) weight(f api.Flex) int {
	if d.sign > 0 {
		return f.Grow
	}
	return f.Shrink * f.Basis
}

// isOpen reports whether an element is not frozen.
func (d *division) isOpen() bool {
	return sumOf(d.weights) > 0
}

// freezeSome shares the free space among the elements that are not frozen, and freezes at least one of them.
func (d *division) freezeSome() {
	targets := d.targets()
	excess := make([]int, len(targets)) // what the limits add to the targets: nothing to the size of a frozen element
	for i, f := range d.elements {
		excess[i] = limited(f, targets[i]) - targets[i]
	}
	total := sumOf(excess)
	for i, x := range excess {
		if total == 0 || sameSign(x, total) {
			d.weights[i], d.sizes[i] = 0, targets[i]+x
		}
	}
}

// targets returns the sizes of the frozen elements, and those that the others would have without limits.
func (d *division) targets() []int {
	free := d.sign * (d.space - sumOf(d.sizes))
	// There is no error: the sizes and gaps are lengths, fewer than 200, and no weight is greater than mostFactor times a length.
	parts, _ := fixed.Share(max(free, 0), d.weights)
	targets := make([]int, len(parts))
	for i, part := range parts {
		targets[i] = d.sizes[i] + d.sign*part
	}
	return targets
}

// limited returns the size that f can have and that is nearest to x.
func limited(f api.Flex, x int) int {
	return fixed.Clamp(x, f.Min, f.Max)
}

func sameSign(a, b int) bool {
	return a > 0 && b > 0 || a < 0 && b < 0
}
