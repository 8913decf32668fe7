package source

import (
	"widgetry/api"
	"widgetry/expr"
)

// failure is what the parser panics with: an error, and the offset of the token that has it.
type failure struct {
	from int
	err  api.Errno
}

// parser parses the tokens of a text. Two of them are known in advance, because only the word after a "(" tells what begins there.
type parser struct {
	scanner
	first, second token
}

// parse returns what rule makes of a whole text, or the offset and the error of the first token that is wrong.
func parse[T any](text string, rule func(*parser) T) (result T, from int, err api.Errno) {
	if len(text) > api.MaxProgram {
		return result, 0, api.ErrTooLong
	}
	defer func() {
		switch f := recover().(type) {
		case nil:
		case failure:
			from, err = f.from, f.err
		}
	}()
	p := &parser{scanner: scanner{source: text}}
	p.first, p.second = p.next(), p.next()
	whole := rule(p)
	p.take(tokenEnd)
	return whole, 0, api.OK
}

// take passes a token of that kind and returns it.
func (p *parser) take(kind int) token {
	t := p.first
	if t.kind != kind {
		panic(failure{t.from, api.ErrSyntax})
	}
	p.first, p.second = p.second, p.next()
	return t
}

// begins reports whether "(" and that word follow.
func (p *parser) begins(word string) bool {
	return p.first.kind == tokenOpen && p.second.kind == tokenWord && p.second.text == word
}

// part parses "(", the word, what rule parses, and ")".
func part[T any](p *parser, word string, rule func() T) T {
	p.take(tokenOpen)
	if t := p.take(tokenWord); t.text != word {
		panic(failure{t.from, api.ErrSyntax})
	}
	x := rule()
	p.take(tokenClose)
	return x
}

// while parses parts as long as they begin with the word.
func while[T any](p *parser, word string, rule func() T) []T {
	var l []T
	for p.begins(word) {
		l = append(l, part(p, word, rule))
	}
	return l
}

// until parses what rule parses again and again, up to a ")". Unlike while, it leaves nothing else that could follow.
func until[T any](p *parser, rule func() T) []T {
	var l []T
	for p.first.kind != tokenClose {
		l = append(l, rule())
	}
	return l
}

func (p *parser) name() string {
	t := p.take(tokenWord)
	if !expr.Name(t.text) {
		panic(failure{t.from, api.ErrName})
	}
	return t.text
}

// names parses a list of names in parentheses.
func (p *parser) names() []string {
	p.take(tokenOpen)
	l := until(p, p.name)
	p.take(tokenClose)
	return l
}
