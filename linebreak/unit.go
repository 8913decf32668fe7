package linebreak

import (
	"slices"

	"widgetry/api"
	"widgetry/char"
	"widgetry/segment"
)

// unit is a rune as the rules see it.
type unit struct {
	original int  // its class in char.Line
	class    int  // its class for most rules: a CM or ZWJ has taken another one
	taken    bool // it is a CM or ZWJ that has taken the class of the rune before it
	base     int  // the class of the last rune, up to this one, that is not SP
	begins   bool // a grapheme cluster begins with it
}

func unitsOf(t []rune) []unit {
	units := make([]unit, len(t))
	// The beginning of the text counts as BK: no class is taken from it, and spaces after it change nothing.
	last := unit{class: api.LineBK, base: api.LineBK}
	for i, r := range t {
		last = last.next(char.Line(r))
		units[i] = last
	}
	for _, p := range segment.Clusters(t) {
		if p < len(t) {
			units[p].begins = true
		}
	}
	return units
}

// next returns the unit of a rune of the class original that follows the rune of u.
// Whether a cluster begins with it depends on more than the rune before it, and is left open.
func (u unit) next(original int) unit {
	is := func(class int, several ...int) bool { return slices.Contains(several, class) }
	n := unit{original: original, class: original}
	if is(original, api.LineCM, api.LineZWJ) {
		n.class = api.LineAL
		n.taken = !is(u.class, api.LineBK, api.LineCR, api.LineLF, api.LineSP, api.LineZW)
	}
	if n.taken {
		n.class = u.class
	}
	n.base = n.class
	if n.class == api.LineSP {
		n.base = u.base
	}
	return n
}
