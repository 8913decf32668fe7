package source

import (
	"fmt"
	"math/big"
	"math/rand/v2"
	"regexp"
	"slices"
	"strings"
	"testing"
	"unicode/utf8"

	"widgetry/api"
)

// The functions of this file read chapter 12 in another way than the program does: by the table of its grammar, and by patterns for the tokens.

var (
	spacePattern   = regexp.MustCompile(`^(?:[ \t\r\n]|;[^\n]*)*`)
	tokenPattern   = regexp.MustCompile(`^(?:\(|\)|"(?:[^\x00-\x1F"\\]|\\["\\n])*"|[^ \t\r\n();"]+)`)
	stringPattern  = regexp.MustCompile(`^"(?:[^\x00-\x1F"\\]|\\["\\n])*"$`)
	escapePattern  = regexp.MustCompile(`\\.`)
	namePattern    = regexp.MustCompile(`^[a-zA-Z][a-zA-Z0-9_-]{0,23}$`)
	integerPattern = regexp.MustCompile(`^-?[0-9]+$`)
	numberPattern  = regexp.MustCompile(`^(0|-?[1-9][0-9]{0,12})$`)
	classPattern   = regexp.MustCompile(`^[A-Z]+$`)
)

// grammar is the table of chapter 12: a word with ":" stands for itself, one in capital letters for the words of a class, "..." means any number of what stands before it, and "?" none or one.
var grammar = func() map[string][][]symbol {
	m := map[string][][]symbol{}
	for s, lines := range map[string][]string{
		"program":   {"component component ..."},
		"component": {"( :component NAME ( NAME ... ) state ... on ... effect ... template ... )"},
		"state":     {"( :state NAME expr )"},
		"on":        {"( :on NAME ( NAME ... ) set ... emit ... )"},
		"set":       {"( :set NAME expr )"},
		"emit":      {"( :emit expr )"},
		"effect":    {"( :effect ( expr ... ) expr )"},
		"template":  {"( :view KIND key ? attr ... event ... template ... )", "( :when expr template ... )", "( :each NAME expr expr template ... )", "( :call NAME key ? attr ... )"},
		"key":       {"( :key expr )"},
		"attr":      {"( :attr NAME expr )"},
		"event":     {"( :event NAME NAME expr ... )"},
		"expr":      {"ATOM", "( OPERATOR"},
	} {
		for _, line := range lines {
			m[s] = append(m[s], symbols(line))
		}
	}
	return m
}()

// symbol is a symbol of the grammar that stands there from least to most times, within that many templates and expressions.
type symbol struct {
	s              string
	least, most    int
	template, expr int
}

// symbols returns the symbols of a line of the grammar.
func symbols(line string) []symbol {
	var l []symbol
	for _, s := range strings.Fields(line) {
		switch s {
		case "...":
			l[len(l)-1].least, l[len(l)-1].most = 0, 1<<40
		case "?":
			l[len(l)-1].least = 0
		default:
			l = append(l, symbol{s, 1, 1, 0, 0})
		}
	}
	return l
}

// openings returns all ways to continue a text that begin with a symbol for a token, or are at the end.
func openings(ways ...[]symbol) [][]symbol {
	var out [][]symbol
	for _, way := range ways {
		if len(way) == 0 {
			out = append(out, way)
			continue
		}
		first, rest := way[0], way[1:]
		if first.least == 0 {
			out = append(out, openings(rest)...)
		}
		if first.most > 1 {
			more := first
			more.least, more.most = max(0, first.least-1), first.most-1
			rest = slices.Concat([]symbol{more}, rest)
		}
		lines, ok := grammar[first.s]
		if !ok {
			out = append(out, slices.Concat([]symbol{first}, rest))
		}
		template, expr := first.template, 0
		if first.s == "template" {
			template++
		}
		if first.s == "expr" {
			expr = first.expr + 1
		}
		for _, line := range lines {
			way := slices.Concat(line, rest)
			for i := range line {
				way[i].template, way[i].expr = template, expr
			}
			out = append(out, openings(way)...)
		}
	}
	return out
}

// piece is a token as it stands in a text.
type piece struct {
	text string
	from int
}

// pieces divides a text into tokens; instead of a string with an error it returns all that is left of the text.
func pieces(text string) []piece {
	var l []piece
	at := 0
	for {
		at += len(spacePattern.FindString(text[at:]))
		if at == len(text) {
			return l
		}
		token := tokenPattern.FindString(text[at:])
		if token == "" || token[0] == '"' && !utf8.ValidString(token) {
			return append(l, piece{text[at:], at})
		}
		l = append(l, piece{token, at})
		at += len(token)
	}
}

// The words of the operators, of which the first one has the number 5, and of the kinds of views.
var (
	operatorList = strings.Fields("+ - * / mod < = not and or if concat length show list item drop")
	kindList     = strings.Fields("group label button field image check link scroll heading list item dialog slider")
)

// denoted returns what a string denotes.
func denoted(text string) string {
	return escapePattern.ReplaceAllStringFunc(text[1:len(text)-1], func(s string) string {
		return map[string]string{`\"`: `"`, `\\`: `\`, `\n`: "\n"}[s]
	})
}

// contentError is the error of a word or string where one of a class is required.
func contentError(text, class string) api.Errno {
	isName := namePattern.MatchString(text)
	switch {
	case class == "KIND" && !slices.Contains(kindList, text):
		return api.ErrKind
	case class == "NAME" && !isName, class == "OPERATOR" && !slices.Contains(operatorList, text):
		return api.ErrName
	case class != "ATOM":
		return api.OK
	case text[0] == '"' && len(denoted(text)) > 2000:
		return api.ErrTooLong
	case integerPattern.MatchString(text):
		if !numberPattern.MatchString(text) {
			return api.ErrSyntax
		}
		if n, _ := new(big.Int).SetString(text, 10); n.CmpAbs(new(big.Int).Lsh(big.NewInt(1), 40)) > 0 {
			return api.ErrRange
		}
	case text[0] != '"' && !isName:
		return api.ErrName
	}
	return api.OK
}

// operandsOf returns what follows an operator that is nested that deep.
func operandsOf(text string, expr int) []symbol {
	operand := symbol{"expr", 2, 2, 0, expr}
	switch text {
	case "not", "length", "show":
		operand.least, operand.most = 1, 1
	case "if":
		operand.least, operand.most = 3, 3
	case "list":
		operand.least, operand.most = 0, 100
	}
	return []symbol{operand, {")", 1, 1, 0, 0}}
}

// step returns the ways that are left after a token, or its error; back means that the error is that of the token before.
func step(ways [][]symbol, text string) (next [][]symbol, back bool, err api.Errno) {
	isBracket := text == "(" || text == ")"
	isString := stringPattern.MatchString(text) && utf8.ValidString(text)
	isWord := !isBracket && text[0] != '"'
	for _, way := range ways {
		if len(way) == 0 {
			continue
		}
		first, rest := way[0], way[1:]
		switch {
		case isBracket && first.s == text:
		case isWord && first.s == ":"+text:
			// The words of the four templates are the only ones that belong to so many templates.
			if first.template > 16 {
				return nil, true, api.ErrDepth
			}
		case isWord && classPattern.MatchString(first.s), isString && first.s == "ATOM":
			if err := contentError(text, first.s); err != api.OK {
				return nil, false, err
			}
			if first.s == "OPERATOR" {
				rest = slices.Concat(operandsOf(text, first.expr), rest)
			}
		default:
			continue
		}
		if first.expr > 16 {
			return nil, false, api.ErrDepth
		}
		next = append(next, rest)
	}
	if len(next) == 0 {
		return nil, false, api.ErrSyntax
	}
	return next, false, api.OK
}

// errorOf returns the offset and the error of the first wrong token of a text, which is to contain what start stands for.
func errorOf(text, start string) (int, api.Errno) {
	if len(text) > 20000 {
		return 0, api.ErrTooLong
	}
	before, ways := 0, openings(symbols(start))
	for _, p := range pieces(text) {
		next, back, err := step(ways, p.text)
		if back {
			return before, err
		}
		if err != api.OK {
			return p.from, err
		}
		ways, before = openings(next...), p.from
	}
	if slices.ContainsFunc(ways, func(w []symbol) bool { return len(w) == 0 }) {
		return 0, api.OK
	}
	return len(text), api.ErrSyntax
}

// naive writes a program with a space between all tokens, whether a text describes it or not.
func naive(p api.Program) string {
	text := ""
	for _, c := range p.Components {
		text += "( component " + c.Name + naiveNames(c.Params)
		for _, s := range c.Slots {
			text += " ( state " + s.Name + naiveExpr(s.Init) + " )"
		}
		for _, h := range c.Handlers {
			text += " ( on " + h.Name + naiveNames(h.Params)
			for _, s := range h.Sets {
				text += " ( set " + s.Slot + naiveExpr(s.E) + " )"
			}
			for _, e := range h.Emit {
				text += " ( emit" + naiveExpr(e) + " )"
			}
			text += " )"
		}
		for _, f := range c.Effects {
			text += " ( effect (" + naiveExprs(f.Deps) + " )" + naiveExpr(f.Emit) + " )"
		}
		text += naiveTemplates(c.Body) + " )\n"
	}
	return text
}

func naiveNames(l []string) string {
	return " ( " + strings.Join(append(slices.Clone(l), ")"), " ")
}

func naiveTemplates(l []api.Template) string {
	text := ""
	for _, t := range l {
		key, rest := "", ""
		for _, k := range t.Key {
			key += " ( key" + naiveExpr(k) + " )"
		}
		for _, s := range t.Settings {
			rest += " ( attr " + s.Name + naiveExpr(s.E) + " )"
		}
		for _, h := range t.Hooks {
			rest += " ( event " + h.Event + " " + h.Handler + naiveExprs(h.Args) + " )"
		}
		switch rest += naiveTemplates(t.Kids) + " )"; t.Kind {
		case 1:
			text += " ( view " + t.Name + key + rest
		case 2:
			text += " ( when" + naiveExprs(t.E) + rest
		case 3:
			text += " ( each " + t.Var + naiveExprs(t.E) + naiveExprs(t.Key) + rest
		case 4:
			text += " ( call " + t.Name + key + rest
		default:
			text += " ?"
		}
	}
	return text
}

func naiveExprs(l []api.Expr) string {
	text := ""
	for _, e := range l {
		text += naiveExpr(e)
	}
	return text
}

func naiveExpr(e api.Expr) string {
	switch e.Op {
	case 1:
		return fmt.Sprint(" ", e.N)
	case 2:
		return fmt.Sprint(" ", e.N == 1)
	case 3:
		text := ` "`
		for _, b := range []byte(e.S) {
			switch b {
			case '"', '\\':
				text += `\` + string([]byte{b})
			case '\n':
				text += `\n`
			default:
				text += string([]byte{b})
			}
		}
		return text + `"`
	case 4:
		return " " + e.S
	}
	if e.Op < 5 || e.Op > 21 {
		return " ?"
	}
	return " ( " + operatorList[e.Op-5] + naiveExprs(e.Args) + " )"
}

// spaced returns the tokens of a text with the spaces of P12.2, and with a line for each component.
func spaced(text string) string {
	out, depth := "", 0
	for _, p := range pieces(text) {
		if out != "" && !strings.HasSuffix(out, "(") && p.text != ")" {
			out += " "
		}
		out += p.text
		switch p.text {
		case "(":
			depth++
		case ")":
			depth--
		}
		if depth == 0 {
			out += "\n"
		}
	}
	return strings.ReplaceAll(out, "\n ", "\n")
}

// testText compares Parse and ParseExpr with the chapter.
func testText(t *testing.T, text string) api.Errno {
	t.Helper()
	at, err := errorOf(text, "program")
	p, offset, got := Parse(text)
	if offset != at || got != err || err != api.OK && !sameProgram(p, api.Program{}) {
		t.Fatalf("P12.1: Parse(%q) = %v, %d, %d, want %d, %d", text, p, offset, got, at, err)
	}
	if err == api.OK {
		if out, formatErr := Format(p); out != spaced(text) || formatErr != api.OK {
			t.Fatalf("P12.3: Format of Parse(%q) is %q, %d", text, out, formatErr)
		}
	}
	return err
}

func testExprText(t *testing.T, text string) api.Errno {
	t.Helper()
	at, err := errorOf(text, "expr")
	e, offset, got := ParseExpr(text)
	if offset != at || got != err || err != api.OK && !sameExpr(e, api.Expr{}) {
		t.Fatalf("P12.2: ParseExpr(%q) = %v, %d, %d, want %d, %d", text, e, offset, got, at, err)
	}
	if err == api.OK {
		if out, formatErr := FormatExpr(e); out+"\n" != spaced(text) || formatErr != api.OK {
			t.Fatalf("P12.3: FormatExpr of ParseExpr(%q) is %q, %d", text, out, formatErr)
		}
	}
	return err
}

// sequences calls visit with all lists of up to n words.
func sequences(words []string, n int, l []string, visit func([]string)) {
	visit(l)
	if n == 0 {
		return
	}
	for _, w := range words {
		sequences(words, n-1, append(l, w), visit)
	}
}

func TestShortExpressionTexts(t *testing.T) {
	words := []string{"(", ")", "x", "1", `"s"`, "not", "list", "if", "=", "true", "01", "2000000000000", "?", `"\x"`}
	sequences(words, 4, nil, func(l []string) { testExprText(t, strings.Join(l, " ")) })
	sequences([]string{"(", ")", "x", "not", "list", "mod", "if"}, 5, nil, func(l []string) { testExprText(t, "("+strings.Join(l, " ")) })
}

func TestShortStrings(t *testing.T) {
	var bytes []string
	for b := range 256 {
		bytes = append(bytes, string([]byte{byte(b)}))
	}
	sequences(bytes, 2, nil, func(l []string) {
		s := strings.Join(l, "")
		testExprText(t, `"`+s+`"`)
		testExprText(t, `(list a`+s+`b)`)
		testExprText(t, `(list 1`+s+`1)`)
		testExprText(t, s+`1`)
		testExprText(t, `1`+s)
		testExprText(t, `(list "a\`+s+`b"`)
	})
	sequences([]string{`"`, `\`, "n", "\n", "a", ";", "\xC3", "\xA9", " ", "("}, 5, nil, func(l []string) { testExprText(t, `"`+strings.Join(l, "")) })
	sequences([]string{`"`, ";", "\n", " ", "a", "(", ")", "\r"}, 5, nil, func(l []string) {
		testExprText(t, strings.Join(l, ""))
		testText(t, "(component a ("+strings.Join(l, ""))
	})
}

// allWords are tokens of all kinds.
func allWords() []string {
	return append(strings.Fields(`( ) component state on set emit effect view when each call key attr event x list + not true 1 -0 9999999999999 ? "a" "\x"`), "", `"`+strings.Repeat("a", 2001)+`"`, strings.Repeat("a", 2001))
}

// TestShortPrograms continues each beginning of a program with all tokens, alone and after a "(".
func TestShortPrograms(t *testing.T) {
	const text = "(component a (p) (state n 0) (on b (r) (set n r) (emit 1)) (effect (2) 3) (view item (key 4) (attr x 5) (event y z 6) (call b (key 7) (attr x 8))) (when 9 (each v l v (view list))))"
	for _, p := range append(pieces(text), piece{from: len(text)}) {
		for _, w := range allWords() {
			testText(t, text[:p.from]+w)
			testText(t, text[:p.from]+"("+w)
			testText(t, text[:p.from]+"x "+w)
			testText(t, text[:p.from]+"("+w+" "+text[p.from:])
			testText(t, text[:p.from]+w+" "+text[p.from:])
			testText(t, text[:p.from]+w+" "+text[p.from+len(p.text):])
		}
	}
	for i := range text {
		testText(t, text[:i])
		testText(t, text[:i]+text[i+1:])
		testText(t, text[i:])
	}
}

// maker makes programs by chance, the same in each run.
type maker struct{ *rand.Rand }

func newMaker() maker { return maker{rand.New(rand.NewPCG(12, 12))} }

func pick[T any](m maker, l ...T) T { return l[m.IntN(len(l))] }

// some returns up to n elements.
func some[T any](m maker, n int, make func() T) []T {
	var l []T
	for range m.IntN(n + 1) {
		l = append(l, make())
	}
	return l
}

func (m maker) name() string {
	return pick(m, "a", "x", "n", "list", "view", "true", "mod", "a-1_B", "abcdefghijklmnopqrstuvwx")
}

func (m maker) expr() api.Expr {
	e := m.exprWithin(m.IntN(4))
	if m.IntN(30) == 0 {
		_, e = nots(m.IntN(13), "", e)
	}
	return e
}

func (m maker) exprWithin(depth int) api.Expr {
	if depth == 0 || m.IntN(4) == 0 {
		return pick(m, lit(0), lit(-1), lit(m.IntN(1<<40+1)), lit(-1<<40), cond(0), cond(1), str(""), str("a"), str("\\\"\n;() "), str("\u05D0\x7F"), name("x"), name("list"), name("not"), op(api.OpList))
	}
	e := op(api.OpAdd + m.IntN(17))
	n := operandsOf(operatorList[e.Op-5], 0)[0].least
	if e.Op == api.OpList {
		n = m.IntN(5)
	}
	for range n {
		e.Args = append(e.Args, m.exprWithin(depth-1))
	}
	return e
}

func (m maker) setting() api.Setting { return api.Setting{Name: m.name(), E: m.expr()} }

func (m maker) template(depth int) api.Template {
	t := api.Template{Kind: 1 + m.IntN(4)}
	kids := func() []api.Template {
		if depth == 0 {
			return nil
		}
		return some(m, 3, func() api.Template { return m.template(depth - 1) })
	}
	switch t.Kind {
	case 1:
		t.Name = pick(m, "group", "slider", "item", "list")
		t.Key, t.Settings = some(m, 1, m.expr), some(m, 2, m.setting)
		t.Hooks = some(m, 2, func() api.Hook { return api.Hook{Event: m.name(), Handler: m.name(), Args: some(m, 2, m.expr)} })
		t.Kids = kids()
	case 2:
		t.E, t.Kids = one(m.expr()), kids()
	case 3:
		t.Var, t.E, t.Key, t.Kids = m.name(), one(m.expr()), one(m.expr()), kids()
	case 4:
		t.Name, t.Key, t.Settings = m.name(), some(m, 1, m.expr), some(m, 2, m.setting)
	}
	return t
}

// outermost returns a template that is no child.
func (m maker) outermost() api.Template {
	t := m.template(m.IntN(4))
	if m.IntN(10) == 0 {
		for range m.IntN(13) {
			t = view("list", t)
		}
	}
	return t
}

func (m maker) component() api.Component {
	return api.Component{
		Name: m.name(), Params: some(m, 2, m.name),
		Slots: some(m, 2, func() api.Slot { return api.Slot{Name: m.name(), Init: m.expr()} }),
		Handlers: some(m, 2, func() api.Handler {
			return api.Handler{Name: m.name(), Params: some(m, 2, m.name), Sets: some(m, 2, func() api.Assign { return api.Assign{Slot: m.name(), E: m.expr()} }), Emit: some(m, 2, m.expr)}
		}),
		Effects: some(m, 2, func() api.Effect { return api.Effect{Deps: some(m, 2, m.expr), Emit: m.expr()} }),
		Body:    some(m, 3, m.outermost),
	}
}

func (m maker) program() api.Program {
	return api.Program{Components: append(some(m, 1, m.component), m.component())}
}

// TestProgramsByChance: Parse of the text of a program returns the program, however its tokens are separated.
func TestProgramsByChance(t *testing.T) {
	m := newMaker()
	for range 2000 {
		p := m.program()
		text := naive(p)
		if got, offset, err := Parse(text); offset != 0 || err != api.OK || !sameProgram(got, p) {
			t.Fatalf("P12.1: Parse(%q) = %v, %d, %d, want %v", text, got, offset, err, p)
		}
		out, err := Format(p)
		if out != spaced(text) || err != api.OK {
			t.Fatalf("P12.2: Format(%v) = %q, %d, want %q", p, out, err, spaced(text))
		}
		if got, offset, err := Parse(m.respace(out)); offset != 0 || err != api.OK || !sameProgram(got, p) {
			t.Fatalf("P12.3: Parse of Format(%v), with other spaces: %v, %d, %d", p, got, offset, err)
		}
	}
}

// respace returns the tokens of a text with other spaces.
func (m maker) respace(text string) string {
	out := ""
	for _, p := range pieces(text) {
		if twoWords := !strings.ContainsAny(p.text[:1], `()"`) && !strings.HasSuffix(out, "(") && !strings.HasSuffix(out, ")") && !strings.HasSuffix(out, `"`); twoWords || m.IntN(2) == 0 {
			out += pick(m, " ", "\n", "\t", "\r", " \r\n\t", ";\n", "; ) \"\n ", ";;(\n")
		}
		out += p.text
	}
	return out
}

// TestTextsByChance changes the tokens of programs.
func TestTextsByChance(t *testing.T) {
	m, seen, words := newMaker(), map[api.Errno]int{}, allWords()
	for range 7000 {
		var l []string
		for _, p := range pieces(naive(m.program())) {
			l = append(l, p.text)
		}
		for range 1 + m.IntN(3) {
			i, j := m.IntN(len(l)), m.IntN(len(l))
			switch m.IntN(8) {
			case 0:
				l[i], l[j] = l[j], l[i]
			case 1:
				l = slices.Insert(l, i, l[j])
			case 2:
				l = slices.Insert(l, i, pick(m, words...))
			case 3:
				l[i] = pick(m, words...)
			case 4:
				l = slices.Insert(l, i, strings.Repeat("( not ", m.IntN(20)))
			case 5:
				l = slices.Insert(l, i, strings.Repeat(pick(m, "( view list ", "( when 1 ", "( each x l x ", "( view item ( key 1 ) "), m.IntN(20)))
			case 6:
				if len(l) > 1 {
					l = slices.Delete(l, i, i+1)
				}
			case 7:
				// Only where an expression is, some words and strings are possible.
				if i = slices.IndexFunc(l, func(s string) bool { return s != "" && strings.ContainsAny(s[:1], `0"`) }); i >= 0 {
					l[i] = pick(m, words...)
				}
			}
		}
		seen[testText(t, strings.Join(l, pick(m, " ", "\n")))]++
	}
	for _, err := range []api.Errno{api.OK, api.ErrSyntax, api.ErrName, api.ErrKind, api.ErrRange, api.ErrTooLong, api.ErrDepth} {
		if seen[err] < 20 {
			t.Errorf("P12.1: the texts have the error %d only %d times", err, seen[err])
		}
	}
}

// stringsOf, exprsOf and templatesOf return pointers to parts of a program.
func stringsOf(p *api.Program) []*string {
	var l []*string
	names := func(s []string) {
		for i := range s {
			l = append(l, &s[i])
		}
	}
	for i := range p.Components {
		c := &p.Components[i]
		l = append(l, &c.Name)
		names(c.Params)
		for i := range c.Slots {
			l = append(l, &c.Slots[i].Name)
		}
		for i := range c.Handlers {
			l = append(l, &c.Handlers[i].Name)
			names(c.Handlers[i].Params)
			for j := range c.Handlers[i].Sets {
				l = append(l, &c.Handlers[i].Sets[j].Slot)
			}
		}
	}
	for _, t := range templatesOf(p) {
		l = append(l, &t.Name, &t.Var)
		for i := range t.Settings {
			l = append(l, &t.Settings[i].Name)
		}
		for i := range t.Hooks {
			l = append(l, &t.Hooks[i].Event, &t.Hooks[i].Handler)
		}
	}
	return l
}

func exprsOf(p *api.Program) []*api.Expr {
	var l []*api.Expr
	var add func(e []api.Expr)
	add = func(e []api.Expr) {
		for i := range e {
			l = append(l, &e[i])
			add(e[i].Args)
		}
	}
	for i := range p.Components {
		c := &p.Components[i]
		for i := range c.Slots {
			l = append(l, &c.Slots[i].Init)
			add(c.Slots[i].Init.Args)
		}
		for _, h := range c.Handlers {
			for i := range h.Sets {
				l = append(l, &h.Sets[i].E)
			}
			add(h.Emit)
		}
		for i := range c.Effects {
			add(c.Effects[i].Deps)
			l = append(l, &c.Effects[i].Emit)
		}
	}
	for _, t := range templatesOf(p) {
		add(t.Key)
		add(t.E)
		for i := range t.Settings {
			l = append(l, &t.Settings[i].E)
		}
		for _, h := range t.Hooks {
			add(h.Args)
		}
	}
	return l
}

func templatesOf(p *api.Program) []*api.Template {
	var l []*api.Template
	var add func(k []api.Template)
	add = func(k []api.Template) {
		for i := range k {
			l = append(l, &k[i])
			add(k[i].Kids)
		}
	}
	for _, c := range p.Components {
		add(c.Body)
	}
	return l
}

// spoil changes a part of p.
func (m maker) spoil(p *api.Program) {
	switch m.IntN(3) {
	case 0:
		*pick(m, stringsOf(p)...) = pick(m, "", "x", "list", "?", "a b", "x ) ( when 1 ) ( call y", "\xFF", "a;", "true", "abcdefghijklmnopqrstuvwxyz")
	case 1:
		if l := exprsOf(p); len(l) > 0 {
			m.spoilExpr(pick(m, l...))
		}
	case 2:
		if l := templatesOf(p); len(l) > 0 {
			m.spoilTemplate(pick(m, l...))
		}
	}
}

func (m maker) spoilExpr(e *api.Expr) {
	switch m.IntN(6) {
	case 0:
		e.Op = m.IntN(24) - 1
	case 1:
		e.N = pick(m, 0, 1, 2, -1, 1<<40, 1<<40+1, -1<<40-1)
	case 2:
		e.S = pick(m, "", "x", "true", "false", "1", "?", "\t", "\n", "\xFF", "a b", `"`, "x ) ( show y")
	case 3:
		e.Args = append(slices.Clone(e.Args), m.exprWithin(1))
	case 4:
		e.Args = nil
	case 5:
		_, *e = nots(m.IntN(16), "", *e)
	}
}

func (m maker) spoilTemplate(t *api.Template) {
	switch m.IntN(9) {
	case 0:
		t.Kind = m.IntN(6)
	case 1:
		t.Var = pick(m, "", "x", "?")
	case 2:
		t.Name = pick(m, "", "x", "list", "?")
	case 3:
		t.Key = some(m, 2, m.expr)
	case 4:
		t.E = some(m, 2, m.expr)
	case 5:
		t.Settings = some(m, 1, m.setting)
	case 6:
		t.Hooks = some(m, 1, func() api.Hook { return api.Hook{Event: "x", Handler: "y"} })
	case 7:
		t.Kids = some(m, 1, func() api.Template { return m.template(0) })
	case 8:
		for range m.IntN(16) {
			*t = view("list", *t)
		}
	}
}

// TestSpoiltPrograms: Format returns ErrSyntax where Parse does not return the program again.
func TestSpoiltPrograms(t *testing.T) {
	m, seen := newMaker(), map[api.Errno]int{}
	for range 20000 {
		p := api.Program{Components: []api.Component{m.component()}}
		for range 1 + m.IntN(3) {
			m.spoil(&p)
		}
		text := naive(p)
		if len(text) > api.MaxProgram {
			continue
		}
		want, wantText := api.ErrSyntax, ""
		if q, _, err := Parse(text); err == api.OK && sameProgram(p, q) {
			want, wantText = api.OK, spaced(text)
		}
		if got, err := Format(p); err != want || got != wantText {
			t.Fatalf("P12.2: Format(%v) = %q, %d, want %q, %d", p, got, err, wantText, want)
		}
		seen[want]++
	}
	if seen[api.OK] < 3000 || seen[api.ErrSyntax] < 3000 {
		t.Errorf("P12.2: the programs are too much alike: %v", seen)
	}
}
