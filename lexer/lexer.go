// Package lexer splits a script into tokens; see shared/doc/01-lexer.md.
package lexer

import (
	"iter"
	"strconv"

	"slotmesh/api"
)

// Kinds of the parts of a script; those of tokens are numbered as in api.
const (
	gap = iota
	name
	number
	punct
	wrong
)

// maxDigits is the number of digits of api.MaxNumber: a longer number need not be computed.
const maxDigits = 10

// lexeme is a token, or the error at its offset.
type lexeme struct {
	token api.Token
	err   api.Errno
}

// Lex returns the tokens of a script, or an error and an offset.
func Lex(source string) ([]api.Token, api.Errno, int) {
	if len(source) > api.MaxSource {
		return nil, api.ErrLimit, 0
	}
	var tokens []api.Token
	for x := range lexemes(source) {
		if x.err != api.OK {
			return nil, x.err, x.token.At
		}
		tokens = append(tokens, x.token)
	}
	return tokens, api.OK, 0
}

// lexemes produces the tokens of a script in order; nothing follows one with an error.
func lexemes(source string) iter.Seq[lexeme] {
	return func(yield func(lexeme) bool) {
		count := 0
		for at := 0; at < len(source); {
			kind, end := scan(source, at)
			if kind != gap {
				x := complete(kind, source[at:end], at)
				if kind != wrong && count == api.MaxTokens {
					x.err = api.ErrLimit
				}
				count++
				if !yield(x) || x.err != api.OK {
					return
				}
			}
			at = end
		}
	}
}

// scan returns the kind of the part that begins at an offset, and where the part ends.
func scan(source string, at int) (int, int) {
	switch first := rune(source[at]); {
	case first == ' ' || first == '\t' || first == '\n':
		return gap, at + 1
	case first == '#':
		return gap, endOf(source, at, inComment)
	case isLetter(first):
		return name, endOf(source, at, inName)
	case isDigit(first):
		return number, endOf(source, at, isDigit)
	case first == ';':
		return punct, at + 1
	}
	return wrong, at + 1
}

// endOf returns the first offset from at on whose byte does not belong to a part.
func endOf(source string, at int, belongs func(rune) bool) int {
	for at < len(source) && belongs(rune(source[at])) {
		at++
	}
	return at
}

func isLetter(c rune) bool  { return 'a' <= c && c <= 'z' }
func isDigit(c rune) bool   { return '0' <= c && c <= '9' }
func inName(c rune) bool    { return isLetter(c) || isDigit(c) || c == '_' }
func inComment(c rune) bool { return c != '\n' }

// complete returns the token of a text, or its error.
func complete(kind int, text string, at int) lexeme {
	x := lexeme{token: api.Token{Kind: kind, At: at}}
	switch {
	case kind == wrong:
		x.err = api.ErrSyntax
	case kind == number:
		x.token.N, x.err = value(text)
	case len(text) > api.MaxName:
		x.err = api.ErrRange
	default:
		x.token.Text = text
	}
	return x
}

// value returns the value of digits. A zero in front is an error of every number, however large it is.
func value(digits string) (int, api.Errno) {
	if len(digits) > 1 && digits[0] == '0' {
		return 0, api.ErrSyntax
	}
	if len(digits) > maxDigits {
		return 0, api.ErrRange
	}
	n, err := strconv.Atoi(digits)
	if err != nil || n > api.MaxNumber {
		return 0, api.ErrRange
	}
	return n, api.OK
}
