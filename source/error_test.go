package source

import (
	"strings"
	"testing"

	"widgetry/api"
)

// unmark returns the text without the mark "@", and the offset of that.
func unmark(text string) (string, int) {
	return strings.Replace(text, "@", "", 1), strings.Index(text, "@")
}

// testError: Parse has the error want at the mark in text, whatever tokens follow behind the wrong one.
func testError(t *testing.T, marked string, want api.Errno) {
	t.Helper()
	text, at := unmark(marked)
	if p, offset, err := Parse(text); offset != at || err != want || !sameProgram(p, api.Program{}) {
		t.Errorf("P12.1: Parse(%q) = %v, %d, %d, want %d, %d", text, p, offset, err, at, want)
	}
}

// testExprError: ParseExpr has the error want at the mark, and Parse has it where the expression is a part of a program.
func testExprError(t *testing.T, marked string, want api.Errno) {
	t.Helper()
	text, at := unmark(marked)
	if e, offset, err := ParseExpr(text); offset != at || err != want || !sameExpr(e, api.Expr{}) {
		t.Errorf("P12.2: ParseExpr(%q) = %v, %d, %d, want %d, %d", text, e, offset, err, at, want)
	}
	for _, before := range []string{
		"(component a () (state n ", "(component a () (on b () (set n ", "(component a () (on b () (emit ", "(component a () (effect (", "(component a () (effect (1 2 ", "(component a () (effect () ", "(component a () (when ", "(component a () (each x ", "(component a () (each x l ",
		"(component a () (view list (key ", "(component a () (view list (attr x ", "(component a () (view list (event press go ", "(component a () (view list (event press go 1 ", "(component a () (call b (key ", "(component a () (call b (attr x ",
	} {
		testError(t, before+marked, want)
	}
}

func TestWrongTokens(t *testing.T) {
	for _, text := range []string{
		"@", " \n;(\n@", "@)", "@a", `@""`, "@component", "(@", "(@(", "(@)", `(@"component"`, "(@view group)", "(@state n 1)", "(@+ 1 2)", "(@Component a ())",
		"(component@", "(component @(", "(component @)", "(component @\"a\"", "(component a@", "(component a @)", "(component a @b", "(component a @\"\"",
		"(component a (@", "(component a (x@", "(component a (x @(", "(component a (x @\"x\"", "(component a ()@", "(component a () @x", "(component a () @\"\"",
		"(component a ())@)", "(component a ()) @a", "(component a ()) @\"\"", "(component a ()) (@", "(component a ()) (@view group)", "(component a ()) (component@",
		"(component a () (@", "(component a () (@(", "(component a () (@)", "(component a () (@\"state\"", "(component a () (@component b ())", "(component a () (@key 1)", "(component a () (@attr x 1)", "(component a () (@event x y)", "(component a () (@set n 1)", "(component a () (@emit 1)", "(component a () (@+ 1 2)", "(component a () (@group)",
		"(component a () (state@", "(component a () (state @)", "(component a () (state @(x) 1)", "(component a () (state @\"n\" 1)", "(component a () (state n@", "(component a () (state n @)", "(component a () (state n 1@", "(component a () (state n 1 @2", "(component a () (state n 1 @(", "(component a () (state n 1 @\"",
		"(component a () (on@", "(component a () (on @()", "(component a () (on b@", "(component a () (on b @)", "(component a () (on b @c", "(component a () (on b (@", "(component a () (on b (@\"\"", "(component a () (on b ()@", "(component a () (on b () @x", "(component a () (on b () @1", "(component a () (on b () (@", "(component a () (on b () (@+ 1 2)", "(component a () (on b () (@effect () 1)", "(component a () (on b () (@)",
		"(component a () (on b () (set@", "(component a () (on b () (set @)", "(component a () (on b () (set n @)", "(component a () (on b () (set n 1 @2", "(component a () (on b () (set n 1@", "(component a () (on b () (set n 1) @1", "(component a () (on b () (set n 1) (@", "(component a () (on b () (set n 1) (@on",
		"(component a () (on b () (emit@", "(component a () (on b () (emit @)", "(component a () (on b () (emit 1@", "(component a () (on b () (emit 1 @2", "(component a () (on b () (emit 1) (@set n 1)", "(component a () (on b () (emit 1) (@view list)", "(component a () (on b () (emit 1) @x",
		"(component a () (effect@", "(component a () (effect @1", "(component a () (effect @)", "(component a () (effect (@", "(component a () (effect ()@", "(component a () (effect () @)", "(component a () (effect () 1@", "(component a () (effect () 1 @2", "(component a () (effect (1) 1 @(",
		"(component a () (on b ()) (@state n 1)", "(component a () (effect () 1) (@state n 1)", "(component a () (effect () 1) (@on b ())", "(component a () (view list) (@state n 1)", "(component a () (view list) (@on b ())", "(component a () (view list) (@effect () 1)", "(component a () (state n 1) (on b ()) (effect () 1) (view list) (@component",
		"(component a () (view@", "(component a () (view @)", "(component a () (view @(", "(component a () (view @\"list\"", "(component a () (view list@", "(component a () (view list @x", "(component a () (view list @1", "(component a () (view list @\"", "(component a () (view list (@", "(component a () (view list (@+ 1 2)", "(component a () (view list (@(", "(component a () (view list (@state n 1)",
		"(component a () (view list (key@", "(component a () (view list (key @)", "(component a () (view list (key 1@", "(component a () (view list (key 1 @2", "(component a () (view list (key 1) (@key 1)", "(component a () (view list (attr x 1) (@key 1)", "(component a () (view list (event x y) (@key 1)", "(component a () (view list (view list) (@key 1)",
		"(component a () (view list (attr@", "(component a () (view list (attr @)", "(component a () (view list (attr @\"x\"", "(component a () (view list (attr x @)", "(component a () (view list (attr x 1 @1", "(component a () (view list (attr x 1@", "(component a () (view list (event x y) (@attr x 1)", "(component a () (view list (view list) (@attr x 1)",
		"(component a () (view list (event@", "(component a () (view list (event @)", "(component a () (view list (event x@", "(component a () (view list (event x @)", "(component a () (view list (event x @(y)", "(component a () (view list (event x y@", "(component a () (view list (event x y 1@", "(component a () (view list (view list) (@event x y)", "(component a () (view list (when true) (@event x y)",
		"(component a () (when@", "(component a () (when @)", "(component a () (when true@", "(component a () (when true @1", "(component a () (when true (@key 1)", "(component a () (when true (@attr x 1)", "(component a () (when true (@event x y)", "(component a () (when true (@+ 1 2)",
		"(component a () (each@", "(component a () (each @)", "(component a () (each @(x)", "(component a () (each x@", "(component a () (each x @)", "(component a () (each x l@", "(component a () (each x l @)", "(component a () (each x l 1@", "(component a () (each x l 1 @1", "(component a () (each x l 1 (@key 1)", "(component a () (each x l 1 (@+ 1 2)",
		"(component a () (call@", "(component a () (call @)", "(component a () (call @\"b\"", "(component a () (call b@", "(component a () (call b @c", "(component a () (call b @1", "(component a () (call b (@", "(component a () (call b (@event x y)", "(component a () (call b (@view list)", "(component a () (call b (@call b)", "(component a () (call b (key 1) (@key 1)", "(component a () (call b (attr x 1) (@key 1)", "(component a () (call b (attr x 1) (@event x y)", "(component a () (call b (attr x 1) @1",
	} {
		testError(t, text, api.ErrSyntax)
	}
	if _, offset, err := ParseExpr(" )"); offset != 1 || err != api.ErrSyntax {
		t.Errorf("P12.2: ParseExpr of a bracket: %d, %d", offset, err)
	}
	for _, text := range []string{"@", "(@", "(@(", "(@)", `(@"+"`, "(not@", "(not @)", "(list@", "(list (list)@", "(not (@", " ; (\n @"} {
		testExprError(t, text, api.ErrSyntax)
	}
}

// TestAfterExpression examines what follows a whole expression.
func TestAfterExpression(t *testing.T) {
	for _, text := range []string{"1 @2", "x@(", "x @)", "(list)@)", "(list) @\"\"", "(list)@\"", "\"\"@\"\"", "1 ;\n@x;", "x @?", "x @01", "x@\"\x00"} {
		text, at := unmark(text)
		if e, offset, err := ParseExpr(text); offset != at || err != api.ErrSyntax || !sameExpr(e, api.Expr{}) {
			t.Errorf("P12.2: ParseExpr(%q) = %v, %d, %d, want %d, %d", text, e, offset, err, at, api.ErrSyntax)
		}
	}
	for _, text := range []string{"1 ", "1;", "1\n;)\n"} {
		if _, offset, err := ParseExpr(text); offset != 0 || err != api.OK {
			t.Errorf("P12.2: ParseExpr(%q): %d, %d", text, offset, err)
		}
	}
}

func TestWrongStrings(t *testing.T) {
	for b := range 256 {
		c := string([]byte{byte(b)})
		if b < ' ' {
			testExprError(t, `@"a`+c+`b"`, api.ErrSyntax)
			testExprError(t, `(list "a" x @"`+c+`"`, api.ErrSyntax)
		}
		if c != `"` && c != `\` && c != "n" {
			testExprError(t, `@"\`+c+`"`, api.ErrSyntax)
			testExprError(t, `@"a\`+c+`b" x`, api.ErrSyntax)
		}
		if b >= 128 {
			testExprError(t, `@"`+c+`"`, api.ErrSyntax)
			testExprError(t, `(list "a" @"a`+c+`b"`, api.ErrSyntax)
		}
	}
	for _, text := range []string{`@"`, `@"a`, `@"a\"`, `@"\`, `@"\\\`, `@"\"`, `@"a (x) ; `, "@\"a\nb\"", "@\"\\\n\"", "@\"\xC3\\\"\xA9\"", "@\"\xC3\\n\xA9\"", "@\"\xED\xA0\x80\"", "@\"\xF4\x90\x80\x80\"", "@\"\xC0\x80\""} {
		testExprError(t, text, api.ErrSyntax)
		testExprError(t, "(list 1 "+text, api.ErrSyntax)
	}
	testError(t, "@\"\x00", api.ErrSyntax)
	testError(t, "(component a (@\"\\x\"", api.ErrSyntax)
}

func TestNumbers(t *testing.T) {
	for _, text := range []string{"@00", "@01", "@-0", "@-00", "@-01", "@000000", "@10000000000000", "@-10000000000000", "@99999999999999", "@00000000000000", "@123456789012345678901234567890", "@-0000000000001"} {
		testExprError(t, text, api.ErrSyntax)
	}
	for _, text := range []string{"@1099511627777", "@-1099511627777", "@9999999999999", "@-9999999999999", "(list 1099511627776 @1099511627777 x?"} {
		testExprError(t, text, api.ErrRange)
	}
	for _, text := range []string{"@-", "@--1", "@+1", "@1-", "@1a", "@0x1", "@1_000", "@1.5", "@-a", "@-1a", "@\u0661", "@1\u0661", "@00a", "@10000000000000a", "@-0-"} {
		testExprError(t, text, api.ErrName)
	}
}

func TestWrongNames(t *testing.T) {
	long := strings.Repeat("a", api.MaxName+1)
	for _, word := range []string{"1", "-", "-1", "_a", "00", "10000000000000", "a.b", "a?", "\u00E4", "a\u00E4", "\x00", "\x7F", "\xFF", "a\v", "\u00A0", "'a'", long, "+", "<"} {
		for _, text := range []string{
			"(component @", "(component a (@", "(component a (x @", "(component a () (state @", "(component a () (on @", "(component a () (on b (@", "(component a () (on b (x @", "(component a () (on b () (set @",
			"(component a () (view list (attr @", "(component a () (view list (event @", "(component a () (view list (event x @", "(component a () (each @", "(component a () (call @", "(component a () (call b (attr @",
		} {
			testError(t, text+word+"\x00", api.ErrName)
			testError(t, text+word+" (", api.ErrName)
			testError(t, text+word, api.ErrName)
		}
	}
	for _, word := range []string{"a.b", "_a", "?", "\u00E4", "\xFF", "\x00", long, strings.Repeat("a", 3000), "+", "=", "/", "a'", "tr\xFFue"} {
		testExprError(t, "@"+word, api.ErrName)
		testExprError(t, "(list a true @"+word+")", api.ErrName)
	}
	for _, word := range []string{"plus", "x", "true", "false", "1", "-1", "00", "99999999999999", "Not", "nots", "view", "key", "+1", "++", "<=", "==", "list?", "\x00", "modulo", long, "a.b"} {
		testExprError(t, "(@"+word+" 1 2)", api.ErrName)
		testExprError(t, "(list (@"+word+"", api.ErrName)
	}
}

func TestWrongKinds(t *testing.T) {
	for _, word := range []string{"x", "Group", "groups", "text", "view", "1", "00", "a.b", "+", "\xFF", "\x00", "grou", "99999999999999"} {
		testError(t, "(component a () (view @"+word+")", api.ErrKind)
		testError(t, "(component a () (view list (view @"+word, api.ErrKind)
	}
}

func TestWrongCounts(t *testing.T) {
	counts := map[string]int{"not": 1, "length": 1, "show": 1, "if": 3}
	for _, word := range strings.Fields("+ - * / mod < = and or concat item drop") {
		counts[word] = 2
	}
	for word, n := range counts {
		for i := range n {
			testExprError(t, "("+word+strings.Repeat(" x", i)+" @)", api.ErrSyntax)
			testExprError(t, "(not ("+word+strings.Repeat(" 1", i)+"@) 2)", api.ErrSyntax)
		}
		for _, more := range []string{"1", "x", `""`, "(list)", "?", "01", "1099511627777", `"\x"`, `"` + strings.Repeat("a", 2001) + `"`, "(?", "true"} {
			testExprError(t, "("+word+strings.Repeat(" x", n)+" @"+more+" ?", api.ErrSyntax)
		}
		testExprError(t, "("+word+strings.Repeat(" x", n)+"@", api.ErrSyntax)
	}
	full := "(list" + strings.Repeat(" 1", api.MaxKids)
	for _, more := range []string{"1", "x", `""`, "(list)", "?", "01", `"` + strings.Repeat("a", 2001) + `"`, ""} {
		testExprError(t, full+" @"+more, api.ErrSyntax)
	}
	testExprError(t, "(list (list) "+full+" @x) ?", api.ErrSyntax)
	if e, offset, err := ParseExpr(full + ")"); offset != 0 || err != api.OK || len(e.Args) != api.MaxKids {
		t.Errorf("P12.1: a list of %d operands: %d, %d", api.MaxKids, offset, err)
	}
	if e, offset, err := ParseExpr("(list" + strings.Repeat(" "+full+")", 50) + ")"); offset != 0 || err != api.OK || len(e.Args) != 50 {
		t.Errorf("P12.1: 50 lists of %d operands: %d, %d", api.MaxKids, offset, err)
	}
}

func TestLongStrings(t *testing.T) {
	for _, x := range []string{"a", `\\`, `\n`, `\"`, " ", ";"} {
		longest := strings.Repeat(x, api.MaxString)
		if e, offset, err := ParseExpr(`"` + longest + `"`); offset != 0 || err != api.OK || len(e.S) != api.MaxString {
			t.Errorf("P12.1: a string of %d times %q: %d, %d", api.MaxString, x, offset, err)
		}
		testExprError(t, `(list "" @"`+longest+`a" ?`, api.ErrTooLong)
		testExprError(t, `@"`+longest+x+`"`, api.ErrTooLong)
		testExprError(t, `@"`+longest+"a\xFF"+`"`, api.ErrSyntax)
		testExprError(t, `@"`+longest+"a", api.ErrSyntax)
		testExprError(t, `@"`+longest+"a\x1F\"", api.ErrSyntax)
	}
	testExprError(t, `@"`+strings.Repeat("\u05D0", 1001)+`"`, api.ErrTooLong)
	if e, _, err := ParseExpr(`"` + strings.Repeat("\u05D0", 1000) + `"`); err != api.OK || len(e.S) != api.MaxString {
		t.Errorf("P12.1: a string of 1000 runes: %d", err)
	}
}

// nots returns e in that many operators, as a text and as an expression.
func nots(n int, text string, e api.Expr) (string, api.Expr) {
	for range n {
		text, e = "(not "+text+")", op(api.OpNot, e)
	}
	return text, e
}

func TestDeepExpressions(t *testing.T) {
	for text, e := range map[string]api.Expr{"x": name("x"), "false": cond(0), "-1": lit(-1), `"a"`: str("a"), "(list)": op(api.OpList)} {
		text, e = nots(api.MaxDepth-1, text, e)
		testExpr(t, text, e)
		shorter, f := nots(api.MaxDepth-2, "1", lit(1))
		testExpr(t, "(list "+shorter+" "+shorter+")", op(api.OpList, f, f))
	}
	open := strings.Repeat("(not ", api.MaxDepth)
	for _, x := range []struct {
		text string
		want api.Errno
	}{
		{"@x", api.ErrDepth}, {"@true", api.ErrDepth}, {"@1", api.ErrDepth}, {`@"" "\x"`, api.ErrDepth},
		{"@(", api.ErrDepth}, {"@(list)", api.ErrDepth}, {"@(?", api.ErrDepth}, {"@()", api.ErrDepth}, {`@("\x"`, api.ErrDepth}, {"@(list 1 2 3", api.ErrDepth},
		{"@)", api.ErrSyntax}, {"@01", api.ErrSyntax}, {`@"\x"`, api.ErrSyntax}, {`@"`, api.ErrSyntax}, {"@", api.ErrSyntax},
		{"@?", api.ErrName}, {"@1099511627777", api.ErrRange}, {`@"` + strings.Repeat("a", 2001) + `"`, api.ErrTooLong},
	} {
		testExprError(t, open+x.text, x.want)
		testExprError(t, "(list 1 "+open[5:]+x.text, x.want)
	}
	testExprError(t, open[5:]+"(list @x y)", api.ErrDepth)
	testExprError(t, open[5:]+"(@?", api.ErrName)
}

// within returns a text that begins that many templates, and the text that ends them.
func within(n int) (string, string) {
	open := "(component a () "
	for i := range n {
		open += []string{"(view list (key 1) ", "(when true ", "(each x l x (view item) "}[i%3]
	}
	return open, strings.Repeat(")", n+1)
}

func TestDeepTemplates(t *testing.T) {
	open, end := within(api.MaxDepth - 1)
	deepest, _ := nots(api.MaxDepth-1, "x", api.Expr{})
	for _, text := range []string{
		"(view list)", "(when 1)", "(each x l x)", "(call b)", "(call b) (view list (key 1) (attr x 1) (event x y 1)) (when true)",
		"(view list (key " + deepest + ") (attr x " + deepest + ") (event x y " + deepest + "))", "(when " + deepest + ")", "(each x " + deepest + " " + deepest + ")", "(call b (key " + deepest + ") (attr x " + deepest + "))",
	} {
		if p, offset, err := Parse(open + text + end); offset != 0 || err != api.OK {
			t.Errorf("P12.1: Parse(%q) = %v, %d, %d", open+text+end, p, offset, err)
		}
	}
	for _, x := range []struct {
		text string
		want api.Errno
	}{
		{"@(view list)", api.ErrDepth}, {"@(when 1)", api.ErrDepth}, {"@(each x l x)", api.ErrDepth}, {"@(call b)", api.ErrDepth},
		{"@(view", api.ErrDepth}, {"@(view ?", api.ErrDepth}, {"@(when)", api.ErrDepth}, {" @( call 1)", api.ErrDepth}, {`@(each "\x"`, api.ErrDepth}, {"@(;\nview", api.ErrDepth},
		{"(@?", api.ErrSyntax}, {"(@views", api.ErrSyntax}, {"(@list)", api.ErrSyntax}, {"(@(view list)", api.ErrSyntax}, {"(@)", api.ErrSyntax}, {"(@", api.ErrSyntax}, {`(@"view"`, api.ErrSyntax}, {`(@"\x"`, api.ErrSyntax},
		{"@x", api.ErrSyntax}, {"@", api.ErrSyntax}, {`@""`, api.ErrSyntax},
	} {
		for _, last := range []string{"(view list ", "(view list (key 1) (attr x 1) (event x y) ", "(when 1 ", "(each x l x ", "(call b) (when 1 "} {
			testError(t, open+last+x.text, x.want)
		}
	}
	testError(t, open+"(view list (attr x 1) @(view list)", api.ErrDepth)
	testError(t, open+"(view list (attr x 1) (attr @1", api.ErrName)
	testError(t, open+"(call b (@view", api.ErrSyntax)
	testError(t, open+"(view list) (view list @(call b)", api.ErrDepth)
}

func TestLongTexts(t *testing.T) {
	fill := func(text string, n int) string { return text + strings.Repeat(" ", n-len(text)) }
	for _, text := range []string{"(component a ())", "(component a ());", "\n(component a ())\n"} {
		if p, offset, err := Parse(fill(text, api.MaxProgram)); offset != 0 || err != api.OK || !sameProgram(p, body()) {
			t.Errorf("P12.1: Parse of %q in %d bytes: %v, %d, %d", text, api.MaxProgram, p, offset, err)
		}
	}
	if e, offset, err := ParseExpr(fill("a", api.MaxProgram)); offset != 0 || err != api.OK || !sameExpr(e, name("a")) {
		t.Errorf("P12.2: ParseExpr of %d bytes: %v, %d, %d", api.MaxProgram, e, offset, err)
	}
	for _, text := range []string{"(component a ())", "", "?", "a", "a b", `"`, "(component a ())\xFF"} {
		for _, n := range []int{api.MaxProgram + 1, 2 * api.MaxProgram} {
			if p, offset, err := Parse(fill(text, n)); offset != 0 || err != api.ErrTooLong || !sameProgram(p, api.Program{}) {
				t.Errorf("P12.1: Parse of %q in %d bytes: %v, %d, %d", text, n, p, offset, err)
			}
			if e, offset, err := ParseExpr(fill(text, n)); offset != 0 || err != api.ErrTooLong || !sameExpr(e, api.Expr{}) {
				t.Errorf("P12.2: ParseExpr of %q in %d bytes: %v, %d, %d", text, n, e, offset, err)
			}
		}
	}
	if _, offset, err := Parse(fill("", api.MaxProgram)); offset != api.MaxProgram || err != api.ErrSyntax {
		t.Errorf("P12.1: Parse of spaces: %d, %d", offset, err)
	}
}

// TestManyParts: there is no limit but MaxKids for the operands of OpList.
func TestManyParts(t *testing.T) {
	const n = 700
	many := func(s string) string { return strings.Repeat(s+" ", n) }
	for _, text := range []string{
		many("(component a ())"), "(component a (" + many("x") + "))", "(component a () " + many("(state n 1)") + ")", "(component a () " + many("(on b ())") + ")", "(component a () " + many("(effect () 1)") + ")", "(component a () " + many("(when 1)") + ")",
		"(component a () (on b (" + many("x") + ")))", "(component a () (on b () " + many("(set n 1)") + "))", "(component a () (on b () " + many("(emit 1)") + "))", "(component a () (effect (" + many("1") + ") 1))",
		"(component a () (view list " + many("(attr x 1)") + "))", "(component a () (view list " + many("(event x y)") + "))", "(component a () (view list (event x y " + many("1") + ")))", "(component a () (view list " + many("(call b)") + "))",
		"(component a () (when 1 " + many("(call b)") + "))", "(component a () (each x l x " + many("(call b)") + "))", "(component a () (call b " + many("(attr x 1)") + "))",
	} {
		p, offset, err := Parse(text)
		if offset != 0 || err != api.OK {
			t.Errorf("P12.1: Parse(%q): %d, %d", text, offset, err)
		}
		if got, err := Format(p); err != api.OK || strings.Count(got, "(") != strings.Count(text, "(") || strings.Count(got, " ") < n-1 {
			t.Errorf("P12.2: Format of the program of %q: %q, %d", text, got, err)
		}
	}
	if e, offset, err := ParseExpr("(list " + strings.Repeat("(list "+strings.Repeat("1 ", 90)+")", 90) + ")"); offset != 0 || err != api.OK || len(e.Args) != 90 {
		t.Errorf("P12.1: an expression of more than %d expressions: %d, %d", api.MaxParts, offset, err)
	}
}
