package component

import (
	"strconv"
	"strings"
	"testing"

	"widgetry/api"
)

// paths renders a program and returns the paths of its instances.
func paths(t *testing.T, text string, args ...api.Value) string {
	t.Helper()
	_, r := mustRender(t, program(t, text), api.Running{}, args...)
	var l []string
	for _, i := range r.Instances {
		l = append(l, i.Path)
	}
	return strings.Join(l, " ")
}

func TestPaths(t *testing.T) {
	const rest = ` (component a () (view label)) (component b ())`
	for _, x := range []struct{ text, want string }{
		{`(component main () (view group))`, `/`},
		{`(component main () (call a))`, `/ /a.0`},
		{`(component main () (call a (key "k")))`, `/ /k`},
		{`(component main () (view group (call a) (call a) (call b) (call a)))`, `/ /a.0 /a.1 /a.2 /b.0`},
		// Calls with a key are not counted.
		{`(component main () (view group (call a (key "k")) (call a) (call a (key "l")) (call a)))`, `/ /a.0 /a.1 /k /l`},
		// The keys of elements and iterations around a call are parts of its path, those of elements without a key are not.
		{`(component main () (view group (key "g") (call a) (view group (call a) (view group (key "h") (call a (key "k"))))))`, `/ /g/a.0 /g/a.1 /g/h/k`},
		{`(component main () (view group (each x (list "p" "q") x (call a) (call b) (view group (key (concat x "r")) (call a) (view group (call b) (call b (key x)))))))`, `/ /p/a.0 /p/b.0 /p/pr/a.0 /p/pr/b.0 /p/pr/p /q/a.0 /q/b.0 /q/qr/a.0 /q/qr/b.0 /q/qr/q`},
		{`(component main () (view group (each x (list "p" "q") x (each y (list "s" "t") y (call b) (call b (key "u")) (call b)))))`, `/ /p/s/b.0 /p/s/b.1 /p/s/u /p/t/b.0 /p/t/b.1 /p/t/u /q/s/b.0 /q/s/b.1 /q/s/u /q/t/b.0 /q/t/b.1 /q/t/u`},
		{`(component main () (view group (when true (call b)) (when false (call b)) (call b)))`, `/ /b.0 /b.1`},
		// The number counts the calls with the same parts before it, in the whole body.
		{`(component main () (view group (each x (list "p" "p" "q") x (call b)) (view group (key "p") (call b)) (call b)))`, `/ /b.0 /p/b.0 /p/b.1 /p/b.2 /q/b.0`},
		// A key that an element gets from an iteration is no part of its own.
		{`(component main () (view group (each x (list "p") x (view group (call b)))))`, `/ /p/b.0`},
		// The instance counts its own calls only.
		{`(component main () (view group (call c) (call b) (call c))) (component c () (call b) (call b))`, `/ /b.0 /c.0 /c.0/b.0 /c.0/b.1 /c.1 /c.1/b.0 /c.1/b.1`},
		{`(component main () (view group (key "g") (call c (key "k")))) (component c () (view group (key "h") (call b) (call b (key "l"))))`, `/ /g/k /g/k/h/b.0 /g/k/h/l`},
		{`(component main () (view group (each x (list "p" "q") x (call c)))) (component c () (view group (call b)))`, `/ /p/c.0 /p/c.0/b.0 /q/c.0 /q/c.0/b.0`},
		{`(component main () (view group (call b (key "b")) (call b (key "0")) (call b)))`, `/ /0 /b /b.0`},
		{`(component main () (view group (call b (key "k")) (view group (key "k") (call b))))`, `/ /k /k/b.0`},
	} {
		if got := paths(t, x.text+rest); got != x.want {
			t.Errorf("P13.3: the paths of %s: %s, want %s", x.text, got, x.want)
		}
	}
	// The order is that of bytes.
	if got := paths(t, `(component main () (view group (call b) (call b (key "-")) (call b (key "B")) (call b (key "_")) (view group (key "b") (call b (key "c"))) (call b (key "b0")) (call b (key "b")) (call b (key "b-"))))`+rest); got != `/ /- /B /_ /b /b- /b.0 /b/c /b0` {
		t.Errorf("P13.3: the order of paths: %s", got)
	}
	// Eleven calls: the number has two digits.
	if got := paths(t, `(component main () (view group`+strings.Repeat(` (call b)`, 11)+`))`+rest); got != `/ /b.0 /b.1 /b.10 /b.2 /b.3 /b.4 /b.5 /b.6 /b.7 /b.8 /b.9` {
		t.Errorf("P13.3: the order of paths: %s", got)
	}
	// An action names its instance.
	testRender(t, `(component main () (view group (key "g") (call c) (call c (key "k")))) (component c () (on h ()) (view link (event press h) (view label (event press h))))`, `group#g[link<press /g/c.0:h>[label<press /g/c.0:h>] link#k<press /g/k:h>[label<press /g/k:h>]]`)
}

func TestEqualPaths(t *testing.T) {
	const rest = ` (component a () (state n (/ 1 0))) (component b ())`
	for _, x := range []struct {
		text string
		want api.Errno
	}{
		{`(component main () (view group (call b (key "k")) (call b (key "k"))))`, api.ErrDuplicate},
		// The error comes before the second instance gets its state, and after its arguments are evaluated.
		{`(component main () (view group (call b (key "k")) (call a (key "k"))))`, api.ErrDuplicate},
		{`(component main () (view group (call b (key "k")) (call a (key "l")) (call b (key "k"))))`, api.ErrRange},
		{`(component main () (view group (call b (key "k")) (call c (key "k") (attr x (not 1))))) (component c (x))`, api.ErrType},
		{`(component main () (view group (each x (list "p" "p") x (call b (key "k")))))`, api.ErrDuplicate},
		{`(component main () (view group (each x (list "p" "q") x (call b (key "k")))))`, api.OK},
		{`(component main () (view group (view group (key "g") (call b (key "k"))) (each x (list "g") x (call b (key "k")))))`, api.ErrDuplicate},
		// An instance and an element with the same key: the calls are counted by instances.
		{`(component main () (view group (call c (key "k")) (view group (key "k") (call b)))) (component c () (call b))`, api.ErrDuplicate},
		{`(component main () (view group (view group (key "k") (call b)) (call c (key "k")))) (component c () (call b))`, api.ErrDuplicate},
		{`(component main () (view group (view group (key "k") (call b)) (call c (key "k")))) (component c () (call b (key "l")))`, api.OK},
	} {
		p := program(t, x.text+rest)
		if x.want == api.OK {
			mustRender(t, p, api.Running{})
		} else {
			testRefused(t, p, api.Running{}, x.want)
		}
	}
}

// TestLongPaths makes paths with as many bytes as possible, and one more.
func TestLongPaths(t *testing.T) {
	key := func(n int) string { return strings.Repeat("k", n) }
	// Each call of main by itself adds 50 bytes to the path.
	inside := func(inner string) api.Program {
		long := `"` + key(api.MaxName) + `"`
		return program(t, `(component main (n l) (when (< 0 n) (each x (list `+long+`) x (call main (key `+long+`) (attr n (- n 1)) (attr l l)))) (when (= n 0) `+inner+`)) (component last () (state a (not 1))) (component abcdefghijklmnopqrstuv ())`)
	}
	none := inside(`(when (/ 1 0))`)
	testRefused(t, none, api.Running{}, api.ErrRange, num(api.MaxPath/50), seq())
	testRefused(t, none, api.Running{}, api.ErrTooLong, num(api.MaxPath/50+1), seq())
	// The error of the slot shows that the instance has begun.
	three := inside(`(each x (list (item l 0)) x (each y (list (item l 1)) y (call last (key (item l 2)))))`)
	testRefused(t, three, api.Running{}, api.ErrType, num(7), texts(key(16), key(16), key(15)))
	testRefused(t, three, api.Running{}, api.ErrTooLong, num(7), texts(key(16), key(16), key(16)))
	testRefused(t, three, api.Running{}, api.ErrTooLong, num(8), texts(key(1), key(1), key(1)))
	// Without a key: 350 bytes, 25 of an iteration, and 24 with a number of one digit: the number 10 has two.
	for n, want := range map[int]api.Errno{1: api.ErrRange, 10: api.ErrRange, 11: api.ErrTooLong} {
		calls := inside(`(each x l x` + strings.Repeat(` (call abcdefghijklmnopqrstuv)`, n) + `) (when (/ 1 0))`)
		testRefused(t, calls, api.Running{}, want, num(7), texts(key(24)))
	}
	// The path is examined after the settings.
	testRefused(t, inside(`(call main (attr n (/ 1 0)) (attr l l))`), api.Running{}, api.ErrRange, num(8), seq())
	// Where nothing is called the keys may be longer.
	keys := `(when (/ 1 0))`
	for i := range api.MaxDepth - 2 {
		keys = `(each x` + strconv.Itoa(i) + ` l "` + key(api.MaxName) + `" ` + keys + `)`
	}
	testRefused(t, inside(keys), api.Running{}, api.ErrRange, num(8), texts(""))
}
