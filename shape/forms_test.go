package shape

import (
	"slices"
	"testing"

	"widgetry/api"
	"widgetry/char"
)

const (
	alone   = api.FormAlone
	final   = api.FormFinal
	initial = api.FormInitial
	medial  = api.FormMedial

	dual        = rune(0x628)
	right       = rune(0x627)
	causing     = rune(0x640)
	transparent = rune(0x64B)
	none        = rune('a')
)

func TestForms(t *testing.T) {
	tests := []struct {
		name string
		t    []rune
		want []int
	}{
		{"no runes", nil, nil},
		{"the example of the chapter", []rune{0x628, 0x628, 0x628}, []int{initial, medial, final}},
		{"one rune of each type", []rune{dual, none, right, none, causing, none, transparent}, []int{0, 0, 0, 0, 0, 0, 0}},
		{"two Dual", []rune{dual, dual}, []int{initial, final}},
		{"Right joins the preceding one only", []rune{dual, right, dual}, []int{initial, final, alone}},
		{"two Right", []rune{right, right}, []int{alone, alone}},
		{"Right before Dual", []rune{right, dual, dual}, []int{alone, initial, final}},
		{"Causing before Dual", []rune{causing, dual}, []int{alone, final}},
		{"Dual before Causing", []rune{dual, causing}, []int{initial, alone}},
		{"Dual between Causing", []rune{causing, dual, causing}, []int{alone, medial, alone}},
		{"Causing before Right", []rune{causing, right, causing}, []int{alone, final, alone}},
		{"Causing between Dual", []rune{dual, causing, dual}, []int{initial, alone, final}},
		{"only Causing", []rune{causing, causing, causing}, []int{alone, alone, alone}},
		{"ZWJ joins", []rune{0x200D, dual, 0x200D}, []int{alone, medial, alone}},
		{"None divides", []rune{dual, none, dual}, []int{alone, alone, alone}},
		{"ZWNJ", []rune{dual, 0x200C, dual}, formsAround(0x200C)},
		{"Transparent is skipped", []rune{dual, transparent, dual, transparent, transparent, dual}, []int{initial, alone, medial, alone, alone, final}},
		{"Transparent at the ends", []rune{transparent, dual, dual, transparent}, []int{alone, initial, final, alone}},
		{"Transparent before Right", []rune{dual, transparent, right, transparent, dual}, []int{initial, alone, final, alone, alone}},
		{"None after Transparent", []rune{dual, transparent, none, transparent, dual}, []int{0, 0, 0, 0, 0}},
		{"a word", []rune{0x645, 0x631, 0x62D, 0x628, 0x627}, []int{initial, final, initial, medial, final}},
		{"numbers that are no runes", []rune{-1, dual, 0x7FFFFFFF, dual, -0x80000000}, []int{0, 0, 0, 0, 0}},
	}
	for _, x := range tests {
		if got := Forms(x.t); !slices.Equal(got, x.want) {
			t.Errorf("P8.1: %s: Forms(%x) = %v, want %v", x.name, x.t, got, x.want)
		}
	}
}

// formsAround returns the forms of two Dual around r, from what chapter 3 says of r.
func formsAround(r rune) []int {
	if char.Joining(r) == api.JoinTransparent {
		return []int{initial, alone, final}
	}
	return []int{alone, alone, alone}
}

// expectedForm is P8.1, read for the rune at alone.
func expectedForm(t []rune, at int) int {
	preceding, following := api.JoinNone, api.JoinNone
	for i := at - 1; i >= 0; i-- {
		if k := char.Joining(t[i]); k != api.JoinTransparent {
			preceding = k
			break
		}
	}
	for i := at + 1; i < len(t); i++ {
		if k := char.Joining(t[i]); k != api.JoinTransparent {
			following = k
			break
		}
	}
	own := char.Joining(t[at])
	isRight, isDual, isCausing := own == api.JoinRight, own == api.JoinDual, own == api.JoinCausing
	before := (isRight || isDual || isCausing) && (preceding == api.JoinDual || preceding == api.JoinCausing)
	after := (isDual || isCausing) && (following == api.JoinRight || following == api.JoinDual || following == api.JoinCausing)
	switch {
	case !isRight && !isDual:
		return alone
	case before && after:
		return medial
	case before:
		return final
	case after:
		return initial
	}
	return alone
}

// TestFormsOfAllTexts compares Forms with the chapter for all texts of up to six runes over a rune of each type.
func TestFormsOfAllTexts(t *testing.T) {
	for length := range 7 {
		everyText([]rune{none, right, dual, causing, transparent}, length, func(text []rune) {
			got := Forms(text)
			for at := range text {
				if want := expectedForm(text, at); len(got) != len(text) || got[at] != want {
					t.Fatalf("P8.1: Forms(%x) = %v, want %d at %d", text, got, want, at)
				}
			}
		})
	}
}

// everyText calls use with each text of the length over the runes.
func everyText(runes []rune, length int, use func(text []rune)) {
	text := make([]rune, length)
	var fill func(at int)
	fill = func(at int) {
		if at == length {
			use(text)
			return
		}
		for _, r := range runes {
			text[at] = r
			fill(at + 1)
		}
	}
	fill(0)
}

func TestFormsOfLongTexts(t *testing.T) {
	longest := slices.Repeat([]rune{dual}, 2000)
	got := Forms(longest)
	if len(got) != 2000 || got[0] != initial || got[1] != medial || got[1998] != medial || got[1999] != final {
		t.Errorf("P8.1: the forms of 2000 runes are %v", got)
	}
	if got := Forms(append(longest, dual)); len(got) != 0 {
		t.Errorf("P8.1: 2001 runes have %d forms", len(got))
	}
	// The neighbours are found at any distance.
	wide := append(append([]rune{dual}, slices.Repeat([]rune{transparent}, 1998)...), right)
	if got := Forms(wide); got[0] != initial || got[1] != alone || got[1998] != alone || got[1999] != final {
		t.Errorf("P8.1: the forms around 1998 transparent runes are %d and %d", got[0], got[1999])
	}
}

func TestFormsShareNoMemory(t *testing.T) {
	text := []rune{dual, dual}
	first := Forms(text)
	first[0] = 7
	if second := Forms(text); second[0] != initial || !slices.Equal(text, []rune{dual, dual}) {
		t.Errorf("R2: the forms have become %v, the text %x", second, text)
	}
}
