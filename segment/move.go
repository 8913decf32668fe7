package segment

import (
	"widgetry/api"
	"widgetry/char"
)

// Next returns the first boundary of clusters after at, or the length of t.
func Next(t []rune, at int) int {
	return least(Clusters(t), func(p int) bool { return p > at })
}

// Previous returns the last boundary of clusters before at, or 0.
func Previous(t []rune, at int) int {
	return greatest(Clusters(t), func(p int) bool { return p < at })
}

// NextWord returns the first end of a word after at, or the length of t.
func NextWord(t []rune, at int) int {
	return least(Words(t), func(p int) bool { return p > at && wordEnds(t, p) })
}

// PreviousWord returns the last beginning of a word before at, or 0.
func PreviousWord(t []rune, at int) int {
	return greatest(Words(t), func(p int) bool { return p < at && wordBegins(t, p) })
}

// least returns the first boundary that is wanted, otherwise the last boundary of all, which is the length of the text.
func least(boundaries []int, wanted func(p int) bool) int {
	last := 0
	for _, p := range boundaries {
		if wanted(p) {
			return p
		}
		last = p
	}
	return last
}

// greatest returns the last boundary that is wanted, otherwise 0.
func greatest(boundaries []int, wanted func(p int) bool) int {
	found := 0
	for _, p := range boundaries {
		if wanted(p) {
			found = p
		}
	}
	return found
}

func wordEnds(t []rune, p int) bool {
	for i := p - 1; i >= 0; i-- {
		if class := char.Word(t[i]); !extends(class) {
			return ofWord(class)
		}
	}
	return false
}

func wordBegins(t []rune, p int) bool {
	return p < len(t) && ofWord(char.Word(t[p]))
}

// ofWord returns whether words, for which the movements stop, consist of runes of the class c.
func ofWord(c int) bool {
	return c == api.WordLetter || c == api.WordNumeric || c == api.WordKatakana || c == api.WordConnect
}
