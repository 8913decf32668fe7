package theme

import (
	"widgetry/api"
	"widgetry/expr"
)

const (
	mostTokens = 100
	leastValue = -1 // no color: a background may be transparent
)

// Validate returns OK if th is a valid theme, otherwise what is wrong with it.
func Validate(th api.Theme) api.Errno {
	if len(th.Tokens) > mostTokens {
		return api.ErrTooLong
	}
	earlier := map[string]bool{}
	for _, t := range th.Tokens {
		switch {
		case !expr.Name(t.Name):
			return api.ErrName
		case earlier[t.Name]:
			return api.ErrDuplicate
		case !valuesInRange(t):
			return api.ErrRange
		}
		earlier[t.Name] = true
	}
	return api.OK
}

func valuesInRange(t api.Token) bool {
	for _, n := range [4]int{t.Light, t.Dark, t.HighLight, t.HighDark} {
		if !within(n, leastValue, white) {
			return false
		}
	}
	return true
}
