package read

import "prompt/api"

// The kinds of tokens.
const (
	end      = iota // the end of the text
	wrong           // a byte that begins no token, or a token that is too long
	name            // p
	variable        // X
	number          // 7
	opening         // (
	closing         // )
	comma           // ,
	dot             // .
	cut             // !
	follows         // :-
)

// token is a token by where it stands: from its first byte to the one behind its last.
type token struct {
	kind int
	from int
	to   int
	code api.Errno // what is wrong with a wrong one
}

// IsName tells whether a word is a name, and nothing beside it.
func IsName(word string) bool { return isToken(word, name) }

// IsVariable tells whether a word is a variable, and nothing beside it.
func IsVariable(word string) bool { return isToken(word, variable) }

func isToken(word string, kind int) bool {
	t := scan(word, 0)
	return t.kind == kind && t.from == 0 && t.to == len(word)
}

// scan finds the first token at an offset or behind it.
func scan(text string, offset int) token {
	from := pastBlanks(text, offset)
	if from >= len(text) {
		return token{kind: end, from: len(text), to: len(text)}
	}
	first := text[from]
	switch {
	case isSmall(first):
		return scanWord(text, from, name)
	case isGreat(first) || first == '_':
		return scanWord(text, from, variable)
	case isDigit(first) || first == '-':
		return scanNumber(text, from)
	case first == ':':
		return scanFollows(text, from)
	}
	return scanMark(first, from)
}

func scanWord(text string, from int, kind int) token {
	to := from
	for to < len(text) && isWord(text[to]) {
		to++
	}
	if to-from > api.MaxName {
		return token{kind: wrong, from: from, to: to, code: api.ErrMany}
	}
	return token{kind: kind, from: from, to: to}
}

func scanNumber(text string, from int) token {
	digits := from
	if text[from] == '-' {
		digits++
	}
	to := digits
	for to < len(text) && isDigit(text[to]) {
		to++
	}
	if to == digits {
		return token{kind: wrong, from: from, to: to, code: api.ErrSyntax}
	}
	if to-digits > api.MaxDigits {
		return token{kind: wrong, from: from, to: to, code: api.ErrMany}
	}
	return token{kind: number, from: from, to: to}
}

func scanFollows(text string, from int) token {
	second := from + 1
	if second < len(text) && text[second] == '-' {
		return token{kind: follows, from: from, to: second + 1}
	}
	return token{kind: wrong, from: from, to: second, code: api.ErrSyntax}
}

func scanMark(mark byte, from int) token {
	t := token{kind: wrong, from: from, to: from + 1}
	switch mark {
	case '(':
		t.kind = opening
	case ')':
		t.kind = closing
	case ',':
		t.kind = comma
	case '.':
		t.kind = dot
	case '!':
		t.kind = cut
	default:
		t.code = api.ErrSyntax
	}
	return t
}

func pastBlanks(text string, offset int) int {
	for offset < len(text) && (text[offset] == ' ' || text[offset] == '\n') {
		offset++
	}
	return offset
}

func isSmall(c byte) bool { return c >= 'a' && c <= 'z' }

func isGreat(c byte) bool { return c >= 'A' && c <= 'Z' }

func isDigit(c byte) bool { return c >= '0' && c <= '9' }

func isWord(c byte) bool { return isSmall(c) || isGreat(c) || isDigit(c) || c == '_' }
