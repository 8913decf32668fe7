package theme

import (
	"math"
	"slices"
	"strconv"
	"strings"
	"testing"

	"widgetry/api"
)

// named returns a token whose values are all valid and different.
func named(name string) api.Token {
	return api.Token{Name: name, Light: 0x111111, Dark: 0x222222, HighLight: 0x333333, HighDark: 0x444444}
}

func themeOf(l ...api.Token) api.Theme {
	return api.Theme{Tokens: l}
}

// numbered returns a valid theme of n tokens.
func numbered(n int) api.Theme {
	var th api.Theme
	for i := range n {
		th.Tokens = append(th.Tokens, named("t"+strconv.Itoa(i)))
	}
	return th
}

func expect(t *testing.T, th api.Theme, want api.Errno) {
	t.Helper()
	if got := Validate(th); got != want {
		t.Errorf("P16.1: Validate of %d tokens = %d, want %d: %v", len(th.Tokens), got, want, th)
	}
}

// A field says which of the four values of a token it sets.
type field struct {
	name string
	set  func(t *api.Token, n int)
}

func fields() []field {
	return []field{
		{"Light", func(t *api.Token, n int) { t.Light = n }},
		{"Dark", func(t *api.Token, n int) { t.Dark = n }},
		{"HighLight", func(t *api.Token, n int) { t.HighLight = n }},
		{"HighDark", func(t *api.Token, n int) { t.HighDark = n }},
	}
}

func TestValid(t *testing.T) {
	expect(t, api.Theme{}, api.OK)
	expect(t, api.Theme{Tokens: []api.Token{}}, api.OK)
	expect(t, themeOf(api.Token{Name: "zero"}), api.OK)
	expect(t, themeOf(named("a"), named("b"), named("A"), named("ab")), api.OK)
	expect(t, themeOf(api.Token{Name: "none", Light: -1, Dark: -1, HighLight: -1, HighDark: -1}), api.OK)
	expect(t, themeOf(api.Token{Name: "white", Light: 0xFFFFFF, Dark: 0xFFFFFF, HighLight: 0xFFFFFF, HighDark: 0xFFFFFF}), api.OK)
}

func TestTokens(t *testing.T) {
	expect(t, numbered(99), api.OK)
	expect(t, numbered(100), api.OK)
	expect(t, numbered(101), api.ErrTooLong)
	expect(t, numbered(1000), api.ErrTooLong)
	// What is wrong with the last one of the allowed tokens is found.
	last := numbered(100)
	last.Tokens[99].HighDark = -2
	expect(t, last, api.ErrRange)
	last.Tokens[99].Name = "t0"
	expect(t, last, api.ErrDuplicate)
	last.Tokens[99].Name = ""
	expect(t, last, api.ErrName)
}

func TestNames(t *testing.T) {
	for _, name := range []string{"a", "Z", "ink", "ink-2", "on_paper", "a-", "z_", "x9", strings.Repeat("n", 24), "true"} {
		expect(t, themeOf(named(name)), api.OK)
		expect(t, themeOf(named("first"), named(name)), api.OK)
	}
	for _, name := range []string{"", " ", "-a", "_a", "9", "9a", "a b", "a.b", "a/b", "ink ", "\u00e9", "a\u00e9", "a\x00", "\xff", strings.Repeat("n", 25)} {
		expect(t, themeOf(named(name)), api.ErrName)
		expect(t, themeOf(named("first"), named(name)), api.ErrName)
		expect(t, themeOf(named("first"), named(name), named("last")), api.ErrName)
	}
}

func TestDuplicates(t *testing.T) {
	expect(t, themeOf(named("a"), named("a")), api.ErrDuplicate)
	expect(t, themeOf(named("a"), api.Token{Name: "a"}), api.ErrDuplicate)
	expect(t, themeOf(named("a"), named("b"), named("a")), api.ErrDuplicate)
	expect(t, themeOf(named("a"), named("b"), named("b")), api.ErrDuplicate)
	expect(t, themeOf(named("a"), named("b"), named("c"), named("b"), named("d")), api.ErrDuplicate)
}

func TestValues(t *testing.T) {
	for _, f := range fields() {
		for _, n := range []int{math.MinInt, -0x1000000, -2, -1, 0, 1, 0x808080, 0xFFFFFE, 0xFFFFFF, 0x1000000, 1 << 32, math.MaxInt} {
			want := api.OK
			if n < -1 || n > 0xFFFFFF {
				want = api.ErrRange
			}
			for at := range 3 {
				th := numbered(3)
				f.set(&th.Tokens[at], n)
				if got := Validate(th); got != want {
					t.Errorf("P16.1: Validate with %s %d in token %d = %d, want %d", f.name, n, at, got, want)
				}
			}
		}
	}
}

// TestErrorOrder: the number of tokens comes first; then each token is examined completely before the next one.
func TestErrorOrder(t *testing.T) {
	dark := named("a")
	dark.Dark = -2
	nameless := api.Token{Light: 1 << 24}
	tests := []struct {
		l    []api.Token
		want api.Errno
	}{
		{[]api.Token{nameless}, api.ErrName},
		{[]api.Token{nameless, nameless}, api.ErrName},
		{[]api.Token{named("a"), nameless}, api.ErrName},
		{[]api.Token{named("a"), dark}, api.ErrDuplicate},
		{[]api.Token{dark, named("a")}, api.ErrRange},
		{[]api.Token{dark, dark}, api.ErrRange},
		{[]api.Token{dark, nameless}, api.ErrRange},
		{[]api.Token{nameless, dark}, api.ErrName},
		{[]api.Token{named("a"), named("a"), nameless}, api.ErrDuplicate},
		{[]api.Token{named("b"), nameless, named("b")}, api.ErrName},
		{[]api.Token{named("b"), dark, named("b")}, api.ErrRange},
		{[]api.Token{named("b"), named("b"), dark}, api.ErrDuplicate},
	}
	for _, x := range tests {
		expect(t, api.Theme{Tokens: x.l}, x.want)
		expect(t, api.Theme{Tokens: slices.Concat(x.l, numbered(101).Tokens)}, api.ErrTooLong)
	}
}

func TestThemeUnchanged(t *testing.T) {
	th := themeOf(named("a"), named("b"), named("a"))
	before := slices.Clone(th.Tokens)
	for range 2 {
		expect(t, th, api.ErrDuplicate)
		if n, ok := Lookup(th, api.Mode{}, "b"); n != 0x111111 || !ok {
			t.Errorf("P16.2: Lookup = %#x, %v", n, ok)
		}
	}
	if !slices.Equal(th.Tokens, before) {
		t.Errorf("R2: the theme has become %v", th)
	}
}
