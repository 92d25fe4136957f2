package lex

import (
	"strings"

	"gudgeon/api"
)

// piece is a token and how many bytes it takes; or what is wrong with it (e),
// and how many bytes stand ahead of that.
type piece struct {
	kind int
	text string
	size int
	e    api.Errno
}

// first is the token that s begins with; it begins with no blank and no remark.
func first(s string) piece {
	c := rune(s[0])
	switch c {
	case '(':
		return upTo(s, 1, api.TokOpen)
	case ')':
		return upTo(s, 1, api.TokClose)
	case '|':
		return barred(s)
	case '"':
		return quoted(s)
	case ':':
		return keyword(s)
	case '#':
		return other(s)
	}
	if digit(c) {
		return number(s)
	}
	if size := span(s, named); size > 0 {
		return upTo(s, size, api.TokSymbol)
	}
	return wrong(api.ErrByte, 0)
}

// upTo is a token that is written as it reads.
func upTo(s string, size, kind int) piece { return piece{kind: kind, text: s[:size], size: size} }

// wrong is what is wrong with a token, and how many bytes stand ahead of that.
func wrong(e api.Errno, ahead int) piece { return piece{size: ahead, e: e} }

// barred is a name in bars.
func barred(s string) piece {
	end := 1 + span(s[1:], func(c rune) bool { return c != '|' && scripts(c) })
	switch {
	case end == len(s):
		return wrong(api.ErrEnd, 0)
	case s[end] != '|':
		return wrong(api.ErrByte, end)
	case strings.Contains(s[:end], `\`):
		return wrong(api.ErrForm, 0)
	}
	return piece{kind: api.TokSymbol, text: s[1:end], size: end + 1}
}

// quoted is a literal.
func quoted(s string) piece {
	end := 1
	for {
		end += span(s[end:], func(c rune) bool { return c != '"' && scripts(c) })
		switch {
		case end == len(s):
			return wrong(api.ErrEnd, 0)
		case s[end] != '"':
			return wrong(api.ErrByte, end)
		case !strings.HasPrefix(s[end:], `""`):
			text := strings.ReplaceAll(s[1:end], `""`, `"`)
			return piece{kind: api.TokString, text: text, size: end + 1}
		}
		end += 2
	}
}

// keyword is a colon and a name.
func keyword(s string) piece {
	size := 1 + span(s[1:], named)
	if size == 1 {
		return wrong(api.ErrForm, 0)
	}
	return upTo(s, size, api.TokKeyword)
}

// other is a # and the digits of bits, or hexadecimal ones.
func other(s string) piece {
	size := 1 + span(s[1:], named)
	if size < 3 || !digits(s[1], s[2:size]) {
		return wrong(api.ErrForm, 0)
	}
	return upTo(s, size, api.TokOther)
}

// digits tells whether s has but digits of the base that a letter stands for.
func digits(letter byte, s string) bool {
	switch letter {
	case 'x':
		return span(s, hex) == len(s)
	case 'b':
		return span(s, bit) == len(s)
	}
	return false
}

// number is digits, or digits with a point.
func number(s string) piece {
	size, ahead := span(s, named), span(s, digit)
	switch {
	case ahead > 1 && s[0] == '0':
		return wrong(api.ErrForm, 0)
	case ahead == size:
		return upTo(s, size, api.TokNumeral)
	case s[ahead] != '.' || ahead+1 == size || span(s[ahead+1:size], digit) != size-ahead-1:
		return wrong(api.ErrForm, 0)
	}
	return upTo(s, size, api.TokDecimal)
}
