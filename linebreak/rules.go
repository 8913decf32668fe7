package linebreak

import (
	"slices"

	"widgetry/api"
)

// between returns what the first rule that applies says of the position between two runes.
// Two rules have no case of their own: rule 3 contains rule 2, because B is LF there, and rule 5 contains rule 23,
// because the runes RI are those that the clusters count as Regional.
func between(before, after unit) int {
	is := func(class int, several ...int) bool { return slices.Contains(several, class) }
	a, b, base := before.class, after.class, before.base
	switch {
	case is(a, api.LineBK, api.LineLF) || a == api.LineCR && b != api.LineLF: // rule 1
		return api.Mandatory
	case is(b, api.LineBK, api.LineCR, api.LineLF, api.LineSP, api.LineZW): // rules 3 and 4
		return api.Prohibited
	case !after.begins: // rule 5
		return api.Prohibited
	case base == api.LineZW: // rule 6
		return api.Allowed
	case before.original == api.LineZWJ || after.taken: // rules 7 and 8
		return api.Prohibited
	case is(api.LineWJ, a, b) || a == api.LineGL: // rules 9 and 10
		return api.Prohibited
	case b == api.LineGL && !is(a, api.LineSP, api.LineBA, api.LineHY): // rule 11
		return api.Prohibited
	case is(b, api.LineCL, api.LineEX, api.LineIS): // rule 12
		return api.Prohibited
	case base == api.LineOP || base == api.LineQU && b == api.LineOP: // rules 13 and 14
		return api.Prohibited
	case a == api.LineSP: // rule 15
		return api.Allowed
	case is(api.LineQU, a, b) || is(b, api.LineBA, api.LineHY): // rules 16 and 17
		return api.Prohibited
	case b == api.LineAL && is(a, api.LineAL, api.LineNU, api.LineIS, api.LineCL): // rules 18, 20, 21 and 22
		return api.Prohibited
	case b == api.LineNU && is(a, api.LineAL, api.LineNU, api.LineHY, api.LineIS, api.LineCL): // rules 18, 19 and 22
		return api.Prohibited
	case b == api.LineOP && is(a, api.LineAL, api.LineNU): // rule 22
		return api.Prohibited
	}
	return api.Allowed // rule 24
}
