// Package lexer splits sources into tokens; see shared/doc/01-lexer.md.
package lexer

import (
	"strconv"

	"queuelab/api"
)

// Lex splits a source into tokens.
func Lex(source string) ([]api.Token, api.Errno, int) {
	if len(source) > api.MaxSource {
		return nil, api.ErrLimit, 0
	}
	var tokens []api.Token
	failure, at := api.OK, gapEnd(source, 0)
scan:
	for at < len(source) {
		// The limit comes first: at one offset it goes before what is wrong with the bytes there.
		if len(tokens) == api.MaxTokens {
			failure = api.ErrLimit
			break scan
		}
		token, next, err := read(source, at)
		if err != api.OK {
			failure = err
			break scan
		}
		tokens = append(tokens, token)
		at = gapEnd(source, next)
	}
	if failure != api.OK {
		return nil, failure, at
	}
	return tokens, api.OK, 0
}

// read returns the token that begins at an offset, and where it ends.
func read(source string, at int) (api.Token, int, api.Errno) {
	switch classOf(source[at]) {
	case letter:
		return readName(source, at)
	case digit:
		return readNumber(source, at)
	case single, relation, bang:
		return readPunct(source, at)
	}
	return api.Token{}, 0, api.ErrSyntax
}

func readName(source string, at int) (api.Token, int, api.Errno) {
	next := end(source, at, func(c class) bool { return c == letter || c == digit || c == under })
	if next-at > api.MaxName {
		return api.Token{}, 0, api.ErrRange
	}
	return api.Token{Kind: api.TokName, Text: source[at:next], At: at}, next, api.OK
}

func readNumber(source string, at int) (api.Token, int, api.Errno) {
	next := end(source, at, func(c class) bool { return c == digit })
	// A leading zero is reported whatever the number is, so it is looked at before the value.
	if next-at > 1 && source[at] == '0' {
		return api.Token{}, 0, api.ErrSyntax
	}
	// Of digits alone, Atoi refuses only those that no int can hold.
	n, err := strconv.Atoi(source[at:next])
	if err != nil || n > api.MaxNumber {
		return api.Token{}, 0, api.ErrRange
	}
	return api.Token{Kind: api.TokNumber, N: n, At: at}, next, api.OK
}

func readPunct(source string, at int) (api.Token, int, api.Errno) {
	first, next := classOf(source[at]), at+1
	if first != single && next < len(source) && source[next] == '=' {
		next++
	} else if first == bang {
		return api.Token{}, 0, api.ErrSyntax
	}
	return api.Token{Kind: api.TokPunct, Text: source[at:next], At: at}, next, api.OK
}

// gapEnd returns where the gap that begins at an offset ends: there, if there is none.
func gapEnd(source string, at int) int {
	for at < len(source) {
		switch classOf(source[at]) {
		case blank, feed:
			at++
		case sharp:
			// The line feed is left: it is no part of the comment.
			at = end(source, at, func(c class) bool { return c != feed })
		default:
			return at
		}
	}
	return at
}

// end returns the offset, from at on, of the first byte whose class does not belong to the part that is read.
func end(source string, at int, belongs func(class) bool) int {
	for at < len(source) && belongs(classOf(source[at])) {
		at++
	}
	return at
}
