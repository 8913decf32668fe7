package source

import (
	"strings"
	"unicode/utf8"
)

// Kinds of tokens.
const (
	tokenEnd = iota // the text has ended
	tokenOpen
	tokenClose
	tokenWord
	tokenString
	tokenBroken // a string with an error
)

// token is a token whose first byte has the offset from. Its text is the word, or what the string denotes.
type token struct {
	kind int
	from int
	text string
}

// scanner divides a text into tokens; at is the offset of the first byte that it has not passed.
type scanner struct {
	source string
	at     int
}

// next passes a token and returns it. What it returns after a string with an error has no meaning.
func (s *scanner) next() token {
	s.skip()
	t := token{from: s.at}
	if s.at == len(s.source) {
		return t
	}
	switch s.source[s.at] {
	case '(':
		t.kind = tokenOpen
		s.at++
	case ')':
		t.kind = tokenClose
		s.at++
	case '"':
		t.kind, t.text = s.quoted()
	default:
		t.kind, t.text = tokenWord, s.word()
	}
	return t
}

// skip passes white space and comments.
func (s *scanner) skip() {
	comment := false
	for ; s.at < len(s.source); s.at++ {
		b := s.source[s.at]
		switch {
		case b == ';':
			comment = true
		case b == '\n':
			comment = false
		case !comment && !isSpace(b):
			return
		}
	}
}

func (s *scanner) word() string {
	from := s.at
	for s.at < len(s.source) && inWord(s.source[s.at]) {
		s.at++
	}
	return s.source[from:s.at]
}

// quoted passes a string and returns the kind of its token, and what it denotes.
func (s *scanner) quoted() (int, string) {
	var value []byte
	s.at++
	for s.at < len(s.source) {
		b := s.source[s.at]
		s.at++
		if b == '"' && utf8.Valid(value) {
			return tokenString, string(value)
		}
		if b == '"' || b < ' ' {
			break
		}
		if b == '\\' {
			b = s.escaped()
		}
		if b == 0 {
			break
		}
		value = append(value, b)
	}
	return tokenBroken, ""
}

// escaped passes the byte after a backslash and returns the byte that the two denote, or 0 if they denote none.
func (s *scanner) escaped() byte {
	if s.at == len(s.source) {
		return 0
	}
	b := s.source[s.at]
	s.at++
	switch b {
	case '"', '\\':
		return b
	case 'n':
		return '\n'
	}
	return 0
}

func isSpace(b byte) bool {
	return b == ' ' || b == '\t' || b == '\r' || b == '\n'
}

// inWord reports whether words contain the byte b.
func inWord(b byte) bool {
	return !isSpace(b) && strings.IndexByte(`();"`, b) < 0
}
