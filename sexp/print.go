package sexp

import (
	"strings"

	"gudgeon/api"
	"gudgeon/lex"
)

// Print is an s-expression's text.
func Print(x api.Sexp) (string, api.Errno) {
	if Depth(x) > api.MaxDepth {
		return "", api.ErrArg
	}
	var b strings.Builder
	if !write(&b, x) {
		return "", api.ErrArg
	}
	return b.String(), api.OK
}

// Depth is how deep an s-expression is; one more than may be, if it is deeper.
func Depth(x api.Sexp) int { return depth(x, api.MaxDepth+1) }

// depth is how deep x is, or most, if it is deeper. It goes no further down than
// that, as a list may be one of its own parts.
func depth(x api.Sexp, most int) int {
	if !x.List || most == 0 {
		return 0
	}
	within := 0
	for _, y := range x.L {
		within = max(within, depth(y, most-1))
		if within == most-1 {
			break
		}
	}
	return 1 + within
}

// write appends the text of x, and tells whether it has one.
func write(b *strings.Builder, x api.Sexp) bool {
	if !x.List {
		text, ok := shown(x)
		b.WriteString(text)
		return ok
	}
	b.WriteByte('(')
	for i, y := range x.L {
		if i > 0 {
			b.WriteByte(' ')
		}
		if !write(b, y) {
			return false
		}
	}
	b.WriteByte(')')
	return true
}

// shown is how an atom is written, if it is one that Parse would tell.
func shown(x api.Sexp) (string, bool) {
	if x.Tok.Kind == api.TokOpen || x.Tok.Kind == api.TokClose || len(x.L) > 0 {
		return "", false
	}
	text, e := lex.Show(x.Tok)
	return text, e == api.OK
}
