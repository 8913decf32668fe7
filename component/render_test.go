package component

import (
	"slices"
	"strconv"
	"strings"
	"testing"

	"widgetry/api"
)

func TestViews(t *testing.T) {
	testRender(t, `(component main () (view image))`, `image`)
	testRender(t, `(component main () (view group (key "a-B_9") (view label) (view link (key "1") (view item))))`, `group#a-B_9[label link#1[item]]`)
	testRender(t, `(component main (n) (view group (attr b n) (attr a "x") (attr c (list n)) (attr B true)))`, `group{B=true a="x" b=3 c=(3)}`, num(3))
	testRender(t, `(component main (n) (on h (x y)) (on g ()) (view button (event press h n (+ n 1)) (event Press g) (event long h)))`, `button<Press /:g><long /:h><press /:h 3 4>`, num(3))
	testRender(t, `(component main (n) (state m (* n 2)) (state k 1) (view label (attr a (+ m (+ n k)))))`, `label{a=10}`, num(3))
	// The order of attributes is that of the bytes of their names.
	testRender(t, `(component main () (view label (attr a_ 1) (attr a 2) (attr a- 3) (attr a0 4) (attr Z 5) (attr b 6)))`, `label{Z=5 a=2 a-=3 a0=4 a_=1 b=6}`)
}

func TestConditions(t *testing.T) {
	const text = `(component main (a b) (view group (view label) (when a (view link) (when b (view image) (view item))) (when (not a) (view slider))))`
	testRender(t, text, `group[label link image item]`, flag(1), flag(1))
	testRender(t, text, `group[label link]`, flag(1), flag(0))
	testRender(t, text, `group[label slider]`, flag(0), num(1))
	testRender(t, `(component main () (when false (view label)) (when true (view image)))`, `image`)
}

func TestIterations(t *testing.T) {
	testRender(t, `(component main (l) (view list (each x l x (view item (attr text x)))))`, `list[item#b{text="b"} item#a{text="a"}]`, texts("b", "a"))
	testRender(t, `(component main (l) (view list (each x l x (view item))))`, `list`, seq())
	testRender(t, `(component main (l) (view list (each x l (show x) (view item (attr n x)))))`, `list[item#1{n=1} item#0{n=0}]`, seq(num(1), num(0)))
	// A view with a key of its own keeps it; the children of a view do not get the key.
	testRender(t, `(component main (l) (view list (each x l x (view item (key (concat "k" x)) (view label)) (view image (view label (key "z")) (view label)))))`, `list[item#ka[label] image#a[label#z label] item#kb[label] image#b[label#z label]]`, texts("a", "b"))
	testRender(t, `(component main (l) (view list (each x l x (when (= x "a") (view item)))))`, `list[item#a]`, texts("a", "b"))
	// The innermost iteration gives the key.
	testRender(t, `(component main (l) (view list (each x l x (each y (list "c" "d") (concat x y) (view item (attr a (concat y x)))))))`, `list[item#ac{a="ca"} item#ad{a="da"} item#bc{a="cb"} item#bd{a="db"}]`, texts("a", "b"))
	testRender(t, `(component main (l) (view list (each x l x (view list (each x2 l x2 (view item (attr a (concat x x2))))))))`, `list[list#a[item#a{a="aa"} item#b{a="ab"}] list#b[item#a{a="ba"} item#b{a="bb"}]]`, texts("a", "b"))
	// A variable ends with its iteration, so that another one can have its name.
	testRender(t, `(component main (l) (view list (each x l x (view item (attr a x))) (each x (list "c") x (view link (attr a x)))))`, `list[item#a{a="a"} link#c{a="c"}]`, texts("a"))
	testRender(t, `(component main (l) (on h (z)) (view list (each x l x (view item (event press h x x) (view label (event press h x))))))`, `list[item#a<press /:h "a" "a">[label<press /:h "a">]]`, texts("a"))
	testRender(t, `(component main (l) (each x l x (view item)))`, `item#a`, texts("a"))
	// Elements without views may have equal keys.
	testRender(t, `(component main (l) (view list (each x l "k") (each x l "k")))`, `list`, texts("a", "b"))
}

func TestCalls(t *testing.T) {
	const other = ` (component other (a b) (state c (concat b "!")) (view label (attr a a) (attr c c)) (view image))`
	testRender(t, `(component main () (view group (call other (attr b "x") (attr a (+ 1 1)))))`+other, `group[label{a=2 c="x!"} image]`)
	testRender(t, `(component main () (view group (call two) (call two)))(component two () (view label) (when false (view image)))`, `group[label label]`)
	testRender(t, `(component main (x) (call other (attr x (+ x 1))))(component other (x) (on h ()) (view label (attr x x) (event go h)))`, `label{x=8}<go /other.0:h>`, num(7))
	testRender(t, `(component main () (view group (call none)))(component none ())`, `group`)
	// Views without a key get that of the call.
	testRender(t, `(component main () (view group (call other (key "k"))))(component other () (view label (view item)) (view image (key "own")))`, `group[label#k[item] image#own]`)
	testRender(t, `(component main (l) (view group (each x l x (call other))))(component other () (view label (view item)))`, `group[label#a[item] label#b[item]]`, texts("a", "b"))
	testRender(t, `(component main (l) (view group (each x l x (call other (key (concat "c" x))))))(component other () (view label))`, `group[label#ca label#cb]`, texts("a", "b"))
	testRender(t, `(component main (l) (view group (each x l x (call other (attr l (list "p" "q"))))))(component other (l) (each y l y (view label)))`, `group[label#p label#q]`, texts("a"))
	// Of calls within calls the innermost one with a key gives it.
	testRender(t, `(component main () (call a (key "k")))(component a () (call b (key "l")))(component b () (call c))(component c () (view label))`, `label#l`)
	testRender(t, `(component main () (call a (key "k")))(component a () (call b))(component b () (view label))`, `label#k`)
	testRender(t, `(component main () (call a (key "k")))(component a () (view group (call b)))(component b () (view label))`, `group#k[label]`)
	// A component that calls itself.
	testRender(t, `(component main (n) (view group (attr n n) (when (< 0 n) (call main (attr n (- n 1))))))`, `group{n=2}[group{n=1}[group{n=0}]]`, num(2))
}

func TestFirstErrors(t *testing.T) {
	wrong := program(t, `(component main (a) (view label (attr x none)))`)
	badValue := api.Value{Kind: 9}
	badRunning := api.Running{Instances: []api.Instance{{Path: "/", Name: "none"}}}
	testRefused(t, wrong, badRunning, api.ErrName)
	testRefused(t, api.Program{}, badRunning, api.ErrMissing, badValue)
	p := program(t, `(component main (a b) (view label (attr x (+ a b)))) (component other ())`)
	testRefused(t, p, badRunning, api.ErrType)
	testRefused(t, p, badRunning, api.ErrType, badValue)
	testRefused(t, p, badRunning, api.ErrType, num(1), num(2), badValue)
	testRefused(t, p, badRunning, api.ErrKind, num(1), badValue)
	testRefused(t, p, badRunning, api.ErrRange, flag(2), badValue)
	testRefused(t, p, badRunning, api.ErrSyntax, num(1), str("\xFF"))
	testRefused(t, p, badRunning, api.ErrState, num(1), str(""))
	testRefused(t, p, api.Running{}, api.ErrType, num(1), str(""))
	testRefused(t, p, api.Running{}, api.ErrRange, num(api.MaxNumber), num(1))
}

// TestStates: whether a running program is valid.
func TestStates(t *testing.T) {
	const text = `(component main (a) (state b 1) (state c 2) (effect (a b) 1) (effect () 2) (view label)) (component other ())`
	first := func() api.Instance {
		return api.Instance{Path: "/", Name: "main", Args: []api.Value{num(1)}, Values: []api.Value{num(1), num(2)}, Seen: [][]api.Value{{num(1), num(1)}, {}}}
	}
	other := func(path string) api.Instance { return api.Instance{Path: path, Name: "other"} }
	p := program(t, text)
	test := func(what string, want api.Errno, l ...api.Instance) {
		t.Helper()
		r := api.Running{Instances: l}
		if want == api.OK {
			mustRender(t, p, r, num(1))
		} else {
			testRefused(t, p, r, want, num(1))
		}
		if _, _, e := Handle(p, r, api.Action{Instance: "none"}, nil); e != map[bool]api.Errno{true: api.ErrMissing, false: want}[want == api.OK] {
			t.Errorf("P13.5: Handle with %s: %d, want %d", what, e, want)
		}
	}
	test("an instance", api.OK, first())
	test("instances", api.OK, other(""), first(), other("/-"), other("/A"), other("/a"), other("/a/b"), other("/a0"), other("/aa"), other("/\xFF"))
	test("very long paths", api.OK, first(), other(strings.Repeat("a", api.MaxPath+1)))
	test("equal paths", api.ErrState, first(), other("/a"), other("/a"))
	test("equal empty paths", api.ErrState, other(""), other(""))
	test("paths in another order", api.ErrState, first(), other("/b"), other("/a"))
	test("paths in another order", api.ErrState, first(), other("/a"), other("/B"))
	test("paths in another order", api.ErrState, first(), other("/\u00E9"), other("/z"))
	test("paths in another order", api.ErrState, other("/a"), first())
	for what, change := range map[string]func(i *api.Instance){
		"no name":                        func(i *api.Instance) { i.Name = "" },
		"the name of nothing":            func(i *api.Instance) { i.Name = "b" },
		"another component":              func(i *api.Instance) { i.Name = "other" },
		"no argument":                    func(i *api.Instance) { i.Args = nil },
		"two arguments":                  func(i *api.Instance) { i.Args = []api.Value{num(1), num(1)} },
		"too few values":                 func(i *api.Instance) { i.Values = i.Values[:1] },
		"too many values":                func(i *api.Instance) { i.Values = append(i.Values, num(1)) },
		"too few effects":                func(i *api.Instance) { i.Seen = i.Seen[:1] },
		"too many effects":               func(i *api.Instance) { i.Seen = append(i.Seen, nil) },
		"too few dependencies":           func(i *api.Instance) { i.Seen[0] = i.Seen[0][:1] },
		"too many dependencies":          func(i *api.Instance) { i.Seen[1] = []api.Value{num(1)} },
		"an argument that is not valid":  func(i *api.Instance) { i.Args[0] = api.Value{} },
		"a value that is not valid":      func(i *api.Instance) { i.Values[1] = num(api.MaxNumber + 1) },
		"a dependency that is not valid": func(i *api.Instance) { i.Seen[0][1] = seq(num(1), str("")) },
	} {
		i := first()
		change(&i)
		test(what, api.ErrState, i)
		// Also instances that the view does not need are examined.
		i.Path = "/z"
		test(what, api.ErrState, first(), i)
	}
}

func TestKnownInstances(t *testing.T) {
	p := program(t, `(component main (a) (state b a) (view group (attr b b) (call other (attr c b)))) (component other (c) (state d (* c 10)) (view label (attr c c) (attr d d))) (component third (c) (state d 0))`)
	s, r := mustRender(t, p, api.Running{}, num(1))
	if s.view != `group{b=1}[label{c=1 d=10}]` || s.running != "/ main(1|1|)\n/other.0 other(1|10|)" {
		t.Errorf("P13.2: new instances: %v", s)
	}
	// A known instance keeps its values, but not its arguments.
	r.Instances[1].Values[0] = num(99)
	s, r = mustRender(t, p, r, num(2))
	if s.view != `group{b=1}[label{c=1 d=99}]` || s.running != "/ main(2|1|)\n/other.0 other(1|99|)" {
		t.Errorf("P13.2: known instances: %v", s)
	}
	r.Instances[0].Values[0] = num(5)
	s, _ = mustRender(t, p, r, num(2))
	if s.view != `group{b=5}[label{c=5 d=99}]` || s.running != "/ main(2|5|)\n/other.0 other(5|99|)" {
		t.Errorf("P13.2: the values of another instance: %v", s)
	}
	// An instance with another name is not known.
	r.Instances[1].Name = "third"
	s, _ = mustRender(t, p, r, num(2))
	if s.view != `group{b=5}[label{c=5 d=50}]` || s.running != "/ main(2|5|)\n/other.0 other(5|50|)" {
		t.Errorf("P13.2: an instance with another name: %v", s)
	}
	r.Instances[1].Name, r.Instances[1].Path = "other", "/other.1"
	s, _ = mustRender(t, p, r, num(2))
	if s.view != `group{b=5}[label{c=5 d=50}]` || s.running != "/ main(2|5|)\n/other.0 other(5|50|)" {
		t.Errorf("P13.2: an instance with another path: %v", s)
	}
}

// TestErrorsOfExpansion: the first error counts. Each (/ 1 0) is ErrRange, each (not 1) ErrType.
func TestErrorsOfExpansion(t *testing.T) {
	for _, x := range []struct {
		text string
		want api.Errno
	}{
		// Values of the wrong kinds.
		{`(component main () (when 1 (view label)))`, api.ErrType},
		{`(component main () (when "true" (view label)))`, api.ErrType},
		{`(component main () (when (list) (view label)))`, api.ErrType},
		{`(component main () (view label) (each x 1 "a"))`, api.ErrType},
		{`(component main () (view label) (each x "a" "a"))`, api.ErrType},
		{`(component main () (view label) (each x true "a"))`, api.ErrType},
		{`(component main () (view label) (when (/ 1 0)))`, api.ErrRange},
		{`(component main () (view label) (each x (item (list) 0) "a"))`, api.ErrRange},
		// Keys.
		{`(component main () (view label (key 1)))`, api.ErrType},
		{`(component main () (view label (key true)))`, api.ErrType},
		{`(component main () (view label (key (list "a"))))`, api.ErrType},
		{`(component main () (view label (key "")))`, api.ErrName},
		{`(component main () (view label (key "a b")))`, api.ErrName},
		{`(component main () (view label (key "a.b")))`, api.ErrName},
		{`(component main () (view label (key "a/b")))`, api.ErrName},
		{`(component main () (view label (key "aaaaaaaaaaaaaaaaaaaaaaaa")))`, api.OK},
		{`(component main () (view label (key "aaaaaaaaaaaaaaaaaaaaaaaaa")))`, api.ErrName},
		{`(component main () (view label) (each x (list 1) x))`, api.ErrType},
		{`(component main () (view label) (each x (list 1) ""))`, api.ErrName},
		{`(component main () (view label) (each x (list 1 0) (show (/ 1 x))))`, api.ErrRange},
		{`(component main () (view label) (each x (list) (/ 1 0)))`, api.OK},
		{`(component main () (view label) (call none (key 1))) (component none ())`, api.ErrType},
		{`(component main () (view label) (call none (key "?"))) (component none ())`, api.ErrName},
		// The order in an element: key, settings, arguments, children.
		{`(component main () (on h (x)) (view label (key 1) (attr a (/ 1 0))))`, api.ErrType},
		{`(component main () (view label (key "") (attr a (/ 1 0))))`, api.ErrName},
		{`(component main () (view label (key "a") (attr b (/ 1 0)) (attr a (not 1))))`, api.ErrRange},
		{`(component main () (on h (x)) (view label (attr b (not 1)) (event a h (/ 1 0))))`, api.ErrType},
		{`(component main () (on h (x)) (view label (event b h (not 1)) (event a h (/ 1 0))))`, api.ErrType},
		{`(component main () (on h (x)) (view label (event b h 1 (not 1)) (event a h (/ 1 0))))`, api.ErrType},
		{`(component main () (on h (x)) (view label (event b h (/ 1 0)) (view label (attr a (not 1)))))`, api.ErrRange},
		{`(component main () (view label (view label (attr a (not 1))) (view label (attr a (/ 1 0)))))`, api.ErrType},
		// Conditions and iterations.
		{`(component main () (when false (view label (attr a (not 1)))) (view label))`, api.OK},
		{`(component main () (each x (list 1 "") (show x) (view label (attr a (/ 1 0)))))`, api.ErrType},
		{`(component main () (each x (list 1 0) (show (/ 1 x)) (view label (attr a (not 1)))))`, api.ErrType},
		{`(component main () (each x (list 1 0) (show x) (view label (attr a (/ 1 x)))))`, api.ErrRange},
		// Calls: key, settings, values of slots, templates.
		{`(component main () (call other (key 1) (attr a (/ 1 0)) (attr b 1))) (component other (a b))`, api.ErrType},
		{`(component main () (call other (attr b (/ 1 0)) (attr a (not 1)))) (component other (a b))`, api.ErrRange},
		{`(component main () (call other (attr b 0) (attr a (not 1)))) (component other (a b) (state c (/ 1 b)))`, api.ErrType},
		{`(component main () (call other (attr b 0) (attr a 1))) (component other (a b) (state c (/ 1 b)) (state d (not 1)))`, api.ErrRange},
		{`(component main () (state c (not 1)) (view label (attr a (/ 1 0))))`, api.ErrType},
		{`(component main () (state c (/ 1 0)) (view label (attr a (not 1))))`, api.ErrRange},
		{`(component main () (call other)) (component other () (state c (/ 1 0)) (view label (attr a (not 1))))`, api.ErrRange},
		{`(component main () (call other) (view label (attr a (not 1)))) (component other () (view label (attr a (/ 1 0))))`, api.ErrRange},
		// Siblings with the same key.
		{`(component main () (view group (view label (key "a")) (view image (key "a"))))`, api.ErrDuplicate},
		{`(component main () (view group (view label (key "a")) (view image (key "b")) (view image (key "a"))))`, api.ErrDuplicate},
		{`(component main () (view group (view label (key "a")) (view image (key "A"))))`, api.OK},
		{`(component main () (view group (key "a") (view label (key "a") (view image (key "a")))))`, api.OK},
		{`(component main () (view group (view label (view image (key "a"))) (view label (view image (key "a")))))`, api.OK},
		{`(component main () (view group (view label (key "a")) (when true (view image (key "a")))))`, api.ErrDuplicate},
		{`(component main () (view group (each x (list "a" "a") x (view label))))`, api.ErrDuplicate},
		{`(component main () (view group (each x (list "a" "b") x (view label) (view label))))`, api.ErrDuplicate},
		{`(component main () (view group (each x (list "a" "b") x (view label) (view label (key (concat x "2"))))))`, api.OK},
		{`(component main () (view group (each x (list "a" "b") x (view label (key "c")))))`, api.ErrDuplicate},
		{`(component main () (view group (view label (key "b")) (each x (list "a" "b") x (view label))))`, api.ErrDuplicate},
		{`(component main () (view group (each x (list "a" "b") x (view label)) (view label (key "b"))))`, api.ErrDuplicate},
		{`(component main () (view group (each x (list "a" "b") x (each y (list "c") y (view label)))))`, api.ErrDuplicate},
		{`(component main () (view group (call other (key "a")))) (component other () (view label) (view label))`, api.ErrDuplicate},
		{`(component main () (view group (call other))) (component other () (view label) (view label))`, api.OK},
		{`(component main () (view group (call other) (view label (key "a")))) (component other () (view label (key "a")))`, api.ErrDuplicate},
		{`(component main () (view group (call other (key "a")) (view label (key "a")))) (component other () (view label))`, api.ErrDuplicate},
		{`(component main () (view group (call other (key "a")) (view label (key "a")))) (component other ())`, api.OK},
		{`(component main () (view group (call other (key "a")) (view label (key "a")))) (component other () (view label (key "b")))`, api.OK},
		{`(component main () (view label (key "a")) (view label (key "a")))`, api.ErrDuplicate},
		// The second view is produced after its children.
		{`(component main () (view group (view label (key "a")) (view image (key "a") (view label (attr a (/ 1 0))))))`, api.ErrRange},
		{`(component main () (view group (view label (key "a")) (view image (key "a")) (view label (attr a (/ 1 0)))))`, api.ErrDuplicate},
		{`(component main () (view group (view group (view label (key "a")) (view image (key "a"))) (view label (attr a (/ 1 0)))))`, api.ErrDuplicate},
		// The number of views.
		{`(component main ())`, api.ErrKind},
		{`(component main () (when false (view label)))`, api.ErrKind},
		{`(component main () (view label) (view label))`, api.ErrKind},
		{`(component main () (call other) (view label)) (component other () (view label))`, api.ErrKind},
		{`(component main () (each x (list "a" "b") x (view label)))`, api.ErrKind},
		{`(component main () (view label) (view label) (when 1))`, api.ErrType},
		{`(component main () (effect () (/ 1 0)))`, api.ErrKind},
		{`(component main () (effect () (/ 1 0)) (view label))`, api.ErrRange},
	} {
		p := program(t, x.text)
		if x.want == api.OK {
			mustRender(t, p, api.Running{})
		} else {
			testRefused(t, p, api.Running{}, x.want)
		}
	}
}

// TestKeys: which texts are keys.
func TestKeys(t *testing.T) {
	p := program(t, `(component main (k) (view label (key k)))`)
	for r := range rune(256) {
		want := api.ErrName
		if strings.ContainsRune("abcdefghijklmnopqrstuvwxyzABCDEFGHIJKLMNOPQRSTUVWXYZ0123456789-_", r) {
			want = api.OK
		}
		for _, s := range []string{string(r), "a" + string(r), "0" + string(r) + "-"} {
			if v, _, _, e := Render(p, api.Running{}, []api.Value{str(s)}); e != want || e == api.OK && v.Key != s {
				t.Errorf("P13.2: the key %q: %d, want %d", s, e, want)
			}
		}
	}
	testRefused(t, p, api.Running{}, api.ErrName, str(strings.Repeat("a", api.MaxName+1)))
	mustRender(t, p, api.Running{}, str(strings.Repeat("9", api.MaxName)))
}

// nothings returns n elements of a list, which are keys.
func nothings(n int) api.Value {
	return texts(numbered(n, func(s string) string { return s })...)
}

// TestSteps expands as many templates as possible, and one more.
func TestSteps(t *testing.T) {
	p := program(t, `(component main (l m n) (view group (each x l x (each y m y (when false) (when false) (when false))) (each x n x (when false (view label)))) (when false (view label)))`)
	for _, x := range [][3]int{{39, 33, 96}, {13, 100, 83}} {
		l, m, n := x[0], x[1], x[2]
		// The view, two iterations, the inner ones, three conditions for each of their elements, one for each element of n, and the last one.
		if steps := 1 + 2 + l + 3*l*m + n + 1; steps != api.MaxSteps {
			t.Fatalf("%d steps", steps)
		}
		mustRender(t, p, api.Running{}, nothings(l), nothings(m), nothings(n))
		testRefused(t, p, api.Running{}, api.ErrTooLong, nothings(l), nothings(m), nothings(n+1))
	}
	testRefused(t, p, api.Running{}, api.ErrTooLong, nothings(100), nothings(100), nothings(100))
	// A template is counted before its expressions are evaluated, also within called components.
	p = program(t, `(component main (l m n) (view group (each x l x (each y m y (when false) (call other))) (each x n x (when false)) (when (/ 1 0)))) (component other () (when true))`)
	testRefused(t, p, api.Running{}, api.ErrRange, nothings(13), nothings(100), nothings(83))
	testRefused(t, p, api.Running{}, api.ErrTooLong, nothings(13), nothings(100), nothings(84))
}

// TestManyViews produces as many views as possible, and one more.
func TestManyViews(t *testing.T) {
	p := program(t, `(component main (l m n) (view group (each x l x (view group (each y m y (view label)))) (each x n (concat "z" x) (call other)))) (component other () (view label))`)
	mustRender(t, p, api.Running{}, nothings(3), nothings(100), nothings(96))
	testRefused(t, p, api.Running{}, api.ErrTooLong, nothings(3), nothings(100), nothings(97))
	mustRender(t, p, api.Running{}, nothings(57), nothings(6), nothings(0))
	testRefused(t, p, api.Running{}, api.ErrTooLong, nothings(57), nothings(6), nothings(1))
	// The error comes when the view is produced: after its children, and before its key is compared.
	q := program(t, `(component main (l m n) (view group (each x l x (view group (each y m y (view label)))) (view label (key "k")) (each x n "k" (view label (attr a (/ 1 0))))))`)
	testRefused(t, q, api.Running{}, api.ErrRange, nothings(57), nothings(6), nothings(1))
	q = program(t, `(component main (l m n) (view group (each x l x (view group (each y m y (view label)))) (view label (key "k")) (each x n "k" (view label))))`)
	testRefused(t, q, api.Running{}, api.ErrTooLong, nothings(57), nothings(6), nothings(1))
	testRefused(t, q, api.Running{}, api.ErrDuplicate, nothings(56), nothings(6), nothings(1))
	// The one that contains all is produced last.
	q = program(t, `(component main (l m) (view group (each x l x (view group (each y m y (view label))))))`)
	testRefused(t, q, api.Running{}, api.ErrTooLong, nothings(4), nothings(99))
	q = program(t, `(component main (l m) (view group (each x l x (view group (each y m y (view label)))) (when 1)))`)
	testRefused(t, q, api.Running{}, api.ErrType, nothings(4), nothings(99))
	testRefused(t, q, api.Running{}, api.ErrTooLong, nothings(5), nothings(99))
	// Also views that no view contains are counted.
	q = program(t, `(component main (l m) (each x l x (view group (each y m y (view label)))))`)
	testRefused(t, q, api.Running{}, api.ErrKind, nothings(4), nothings(99))
	testRefused(t, q, api.Running{}, api.ErrTooLong, nothings(5), nothings(99))
}

// TestWideViews makes views with as many children, attributes and actions as possible, and one more.
func TestWideViews(t *testing.T) {
	p := program(t, `(component main (l m) (view group (each x l x (view label)) (each x m (concat "z" x) (view label))))`)
	mustRender(t, p, api.Running{}, nothings(100), nothings(0))
	testRefused(t, p, api.Running{}, api.ErrTooLong, nothings(100), nothings(1))
	mustRender(t, p, api.Running{}, nothings(1), nothings(99))
	// All children are expanded before that.
	p = program(t, `(component main (l m) (view group (each x l x (view label)) (each x m (concat "z" x) (view label)) (when 1)))`)
	testRefused(t, p, api.Running{}, api.ErrType, nothings(100), nothings(1))
	p = program(t, `(component main (l m) (view group (view group (each x l x (view label)) (each x m (concat "z" x) (view label))) (when 1)))`)
	testRefused(t, p, api.Running{}, api.ErrTooLong, nothings(100), nothings(1))
	p = program(t, `(component main (l m) (view group (view label (key "k")) (view label (key "k") (each x l x (view label)) (each x m (concat "z" x) (view label)))))`)
	testRefused(t, p, api.Running{}, api.ErrTooLong, nothings(100), nothings(1))
	testRefused(t, p, api.Running{}, api.ErrDuplicate, nothings(100), nothings(0))

	wide := func(attrs, actions int, kids ...api.Template) api.Program {
		p := body(view("group", append([]api.Template{view("label")}, kids...)...))
		p.Components[0].Handlers = []api.Handler{{Name: "h"}}
		p.Components[0].Body[0].Settings = numbered(attrs, func(s string) api.Setting { return api.Setting{Name: s, E: lit(1)} })
		p.Components[0].Body[0].Hooks = numbered(actions, func(s string) api.Hook { return api.Hook{Event: s, Handler: "h"} })
		return p
	}
	mustRender(t, wide(api.MaxAttrs, api.MaxAttrs), api.Running{})
	testRefused(t, wide(api.MaxAttrs+1, 0), api.Running{}, api.ErrTooLong)
	testRefused(t, wide(0, api.MaxAttrs+1), api.Running{}, api.ErrTooLong)
	failing := api.Template{Kind: api.TemplateIf, E: one(lit(1))}
	testRefused(t, wide(api.MaxAttrs+1, 0, failing), api.Running{}, api.ErrType)
	testRefused(t, wide(0, api.MaxAttrs+1, failing), api.Running{}, api.ErrType)
	// A call may have more parameters than a view has attributes.
	called := api.Program{Components: []api.Component{{Name: "main", Body: []api.Template{{Kind: api.TemplateCall, Name: "other", Settings: wide(50, 0).Components[0].Body[0].Settings}}}, {Name: "other", Params: numbered(50, func(s string) string { return s }), Body: []api.Template{view("label")}}}}
	mustRender(t, called, api.Running{})
}

// TestDepthOfViews nests views within components that call themselves.
func TestDepthOfViews(t *testing.T) {
	// A component makes two levels of views.
	const text = `(component main (n a k) (on h (x)) (view group (view group (attr a (/ 1 (+ (* n 2) a))) (event go h (/ 1 (+ n k))) (when (< 0 n) (call main (attr n (- n 1)) (attr a a) (attr k k))))))`
	p := program(t, text)
	mustRender(t, p, api.Running{}, num(7), num(1), num(1))
	testRefused(t, p, api.Running{}, api.ErrDepth, num(8), num(1), num(1))
	// With one view around them the last one is too deep: its settings and arguments are evaluated before that.
	around := program(t, `(component first (n a k) (view group (call main (attr n n) (attr a a) (attr k k)))) `+text)
	mustRender(t, around, api.Running{}, num(6), num(1), num(1))
	testRefused(t, around, api.Running{}, api.ErrDepth, num(7), num(1), num(1))
	testRefused(t, around, api.Running{}, api.ErrRange, num(7), num(0), num(1))
	testRefused(t, around, api.Running{}, api.ErrRange, num(7), num(1), num(0))
	// 16 views in one component and one in another: the children are not expanded any more.
	deep := func(n int, k api.Template) api.Template {
		for range n {
			k = view("group", k)
		}
		return k
	}
	failing := api.Template{Kind: api.TemplateIf, E: one(lit(1))}
	call := api.Template{Kind: api.TemplateCall, Name: "other"}
	nested := func(n, m int, k api.Template) api.Program {
		q := body(deep(n, call))
		q.Components = append(q.Components, api.Component{Name: "other", Body: []api.Template{deep(m, k)}})
		return q
	}
	testRefused(t, nested(8, 8, failing), api.Running{}, api.ErrType)
	testRefused(t, nested(8, 9, failing), api.Running{}, api.ErrDepth)
	testRefused(t, nested(15, 1, failing), api.Running{}, api.ErrType)
	testRefused(t, nested(15, 2, failing), api.Running{}, api.ErrDepth)
	mustRender(t, nested(1, 14, view("group")), api.Running{})
	testRefused(t, nested(2, 14, view("group")), api.Running{}, api.ErrDepth)
	// Siblings are not nested, and neither are conditions, iterations and calls.
	mustRender(t, program(t, `(component main () (view group (call a) (call a))) (component a () (when true (call b) (call b))) (component b () (view group (view group (view group))) (view group (view group (view group))))`), api.Running{})
}

// TestDepthOfCalls nests calls.
func TestDepthOfCalls(t *testing.T) {
	p := program(t, `(component main (n) (when (< 1 n) (call main (attr n (- n 1)))) (when (< n 2) (view label)))`)
	mustRender(t, p, api.Running{}, num(api.MaxDepth))
	testRefused(t, p, api.Running{}, api.ErrDepth, num(api.MaxDepth+1))
	testRefused(t, program(t, `(component main () (call main))`), api.Running{}, api.ErrDepth)
	// The key and the settings are evaluated before that, nothing of the called component is.
	for _, x := range []struct {
		last string
		want api.Errno
	}{
		{`(call last (attr a 1))`, api.ErrDepth},
		{`(call last (attr a (/ 1 0)))`, api.ErrRange},
		{`(call last (key "") (attr a (/ 1 0)))`, api.ErrName},
		{`(call last (key "a") (attr a 1)) (call last (key "b") (attr a (/ 1 0)))`, api.ErrDepth},
		{`(view label) (when 1)`, api.ErrType},
	} {
		p := program(t, `(component main (n) (when (< 1 n) (call main (attr n (- n 1)))) (when (< n 2) `+x.last+`)) (component last (a) (state b (not 1)))`)
		testRefused(t, p, api.Running{}, x.want, num(api.MaxDepth))
	}
	// Calls behind one another are not nested.
	var text strings.Builder
	for range 2 * api.MaxDepth {
		text.WriteString(" (call other)")
	}
	mustRender(t, program(t, `(component main () (view group`+text.String()+`)) (component other () (view label))`), api.Running{})
}

// TestManyVariables renders a component with very many parameters and slots.
func TestManyVariables(t *testing.T) {
	const n = 300
	p := api.Program{Components: []api.Component{{
		Name: "main", Params: numbered(api.MaxKids, func(s string) string { return "p" + s }),
		Slots:    numbered(n, func(s string) api.Slot { return api.Slot{Name: s, Init: name("px7")} }),
		Handlers: []api.Handler{{Name: "h", Params: numbered(api.MaxKids, func(s string) string { return "h" + s }), Sets: []api.Assign{{Slot: "x299", E: op(api.OpAdd, name("hx99"), op(api.OpAdd, name("px99"), name("x0")))}}}},
		Body:     []api.Template{{Kind: api.TemplateElement, Name: "label", Settings: []api.Setting{{Name: "a", E: op(api.OpAdd, name("px99"), op(api.OpMul, name("x0"), name("x299")))}}}},
	}}}
	args := slices.Repeat([]api.Value{num(2)}, api.MaxKids)
	args[7] = num(3)
	s, r := mustRender(t, p, api.Running{}, args...)
	if s.view != `label{a=11}` {
		t.Errorf("P13.2: many variables: %s", s.view)
	}
	r, _ = mustHandle(t, p, r, api.Action{Instance: "/", Handler: "h"}, slices.Repeat([]api.Value{num(10)}, api.MaxKids)...)
	if s, _ = mustRender(t, p, r, args...); s.view != `label{a=`+strconv.Itoa(2+3*15)+`}` {
		t.Errorf("P13.5: many variables: %s", s.view)
	}
}
