package shape

import (
	"widgetry/api"
	"widgetry/char"
)

// Forms returns the joining form of each rune of t.
func Forms(t []rune) []int {
	if len(t) > api.MaxText {
		return nil
	}
	forms := make([]int, len(t))
	// Neither a transparent rune nor one before the text joins anything, so that both can be passed by as the last one.
	last, left := 0, api.JoinNone
	for at, r := range t {
		joining := char.Joining(r)
		if joining == api.JoinTransparent {
			continue
		}
		if joinsFollowing(left) && joinsPreceding(joining) {
			forms[last] = withFollowing(left, forms[last])
			forms[at] = withPreceding(joining)
		}
		last, left = at, joining
	}
	return forms
}

// joinsPreceding reports whether a rune of the joining type can join the one before it.
func joinsPreceding(joining int) bool {
	return joining == api.JoinRight || joining == api.JoinDual || joining == api.JoinCausing
}

// joinsFollowing reports whether a rune of the joining type can join the one after it.
func joinsFollowing(joining int) bool {
	return joining == api.JoinDual || joining == api.JoinCausing
}

// withPreceding returns the form of a rune that joins the one before it. Runes that only cause joining have no forms.
func withPreceding(joining int) int {
	if joining == api.JoinCausing {
		return api.FormAlone
	}
	return api.FormFinal
}

// withFollowing returns what becomes of the form of a rune when it joins the one after it.
func withFollowing(joining, form int) int {
	switch {
	case joining == api.JoinCausing:
		return api.FormAlone
	case form == api.FormFinal:
		return api.FormMedial
	}
	return api.FormInitial
}
