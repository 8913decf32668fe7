package source

import "widgetry/api"

// writer writes the tokens of a text until it is too long.
type writer struct {
	text    []byte
	joined  bool // no space belongs before the next token
	wrong   bool // something had to be written that no text stands for
	visited map[place]bool
}

// place is a list of elements that are nested that deep.
type place struct {
	first  any // points to the first element
	length int
	depth  int
}

// format returns the text that write writes.
func format(write func(*writer)) (string, api.Errno) {
	w := &writer{joined: true, visited: map[place]bool{}}
	write(w)
	switch {
	case w.wrong:
		return "", api.ErrSyntax
	case w.isFull():
		return "", api.ErrTooLong
	}
	return string(w.text), api.OK
}

// isFull reports whether the text is too long.
func (w *writer) isFull() bool {
	return len(w.text) > api.MaxProgram
}

// require notes whether what is written is as it has to be.
func (w *writer) require(ok bool) {
	w.wrong = w.wrong || !ok
}

// put writes a token, or the end of a line.
func (w *writer) put(token string) {
	if w.isFull() {
		return
	}
	if !w.joined && token != ")" && token != "\n" {
		w.text = append(w.text, ' ')
	}
	w.text = append(w.text, token...)
	w.joined = token == "(" || token == "\n"
}

// open writes the beginning of a part.
func (w *writer) open(word string) {
	w.put("(")
	w.put(word)
}

// each writes the elements of a list, which are nested that deep.
func each[T any](w *writer, l []T, depth int, write func(T)) {
	if len(l) == 0 {
		return
	}
	// A few lists that share memory can stand for an endless text: as soon as that is too long, each list is examined only once.
	here := place{&l[0], len(l), depth}
	if w.visited[here] {
		return
	}
	if w.isFull() {
		w.visited[here] = true
	}
	for _, x := range l {
		if w.wrong {
			return
		}
		write(x)
	}
}
