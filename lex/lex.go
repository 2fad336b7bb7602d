// Package lex is layer 2: see shared/doc/02-lex.md.
package lex

import (
	"math"
	"strings"

	"palings/api"
)

// Kind is what a token is.
type Kind int

// The kinds.
const (
	End Kind = iota
	Name
	Number
	Word
	Mark
)

// Token is a token: what it says, the number that it is, where it stands.
type Token struct {
	Kind Kind
	Text string
	Num  int64
	At   api.Pos
}

// Fault is an error, and where it is.
type Fault struct {
	E  api.Errno
	At api.Pos
}

// All is the tokens of a text, the end as the last one.
func All(s string) ([]Token, Fault) {
	at := api.Pos{Line: 1, Col: 1}
	if len(s) > api.MaxText {
		return nil, Fault{E: api.ErrLong, At: at}
	}
	var out []Token
	next := 0 // where the piece behind the last one begins
	for i := range len(s) {
		if i == next {
			n := gap(s[i:])
			if n == 0 {
				t, e := token(s[i:])
				if e != api.OK {
					return nil, Fault{E: e, At: at}
				}
				t.At = at
				out = append(out, t)
				n = len(t.Text)
			}
			next = i + n
		}
		at = behind(at, s[i])
	}
	return append(out, Token{Kind: End, At: at}), Fault{}
}

// behind is the place behind a byte.
func behind(at api.Pos, c byte) api.Pos {
	if c == '\n' {
		return api.Pos{Line: at.Line + 1, Col: 1}
	}
	return api.Pos{Line: at.Line, Col: at.Col + 1}
}

// gap is how many bytes at the beginning are no part of a token: a blank, or a remark. It is asked ahead of the marks, since / is one.
func gap(s string) int {
	if blank(s[0]) {
		return 1
	}
	if strings.HasPrefix(s, "//") {
		return span(s, inLine)
	}
	return 0
}

// token is the first token of a text that begins with one; its place is for the caller to say.
func token(s string) (Token, api.Errno) {
	if letter(s[0]) {
		t := piece(Name, s, span(s, inName))
		if reserved(t.Text) {
			t.Kind = Word
		}
		return t, api.OK
	}
	if digit(s[0]) {
		return number(piece(Number, s, span(s, digit)))
	}
	if n := mark(s); n > 0 {
		return piece(Mark, s, n), api.OK
	}
	return Token{}, api.ErrSign
}

// piece copies what it cuts off, so that no token keeps the whole text.
func piece(k Kind, s string, n int) Token {
	return Token{Kind: k, Text: strings.Clone(s[:n])}
}

// number gives a token of digits its number, if there is such a word.
func number(t Token) (Token, api.Errno) {
	for i := range len(t.Text) {
		d := int64(t.Text[i] - '0')
		if t.Num > (math.MaxInt64-d)/10 {
			return Token{}, api.ErrNumber
		}
		t.Num = t.Num*10 + d
	}
	return t, api.OK
}

// span is how many bytes from the beginning on are of a kind.
func span(s string, of func(byte) bool) int {
	for i := range len(s) {
		if !of(s[i]) {
			return i
		}
	}
	return len(s)
}

// mark is the length of the longest mark at the beginning; 0: there is none.
func mark(s string) int {
	if len(s) > 1 && double(s[:2]) {
		return 2
	}
	if strings.IndexByte("+-*/%&|^<>=!(){}[],;", s[0]) >= 0 {
		return 1
	}
	return 0
}

func double(s string) bool {
	switch s {
	case "&&", "||", "==", "!=", "<=", ">=", "<<", ">>":
		return true
	}
	return false
}

func reserved(s string) bool {
	switch s {
	case "else", "false", "func", "if", "let", "public", "return", "secret", "true", "var", "while":
		return true
	}
	return false
}

func blank(c byte) bool { return c == ' ' || c == '\t' || c == '\n' || c == '\r' }

func letter(c byte) bool { return 'a' <= c && c <= 'z' || 'A' <= c && c <= 'Z' || c == '_' }

func digit(c byte) bool { return '0' <= c && c <= '9' }

func inName(c byte) bool { return letter(c) || digit(c) }

func inLine(c byte) bool { return c != '\n' }
