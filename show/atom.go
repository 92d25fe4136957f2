package show

import (
	"gudgeon/api"
	"gudgeon/lit"
	"gudgeon/nat"
	"gudgeon/whole"
)

// atom is a token of that kind, without a place.
func atom(kind int, text string) api.Sexp {
	return api.Sexp{Tok: api.Token{Kind: kind, Text: text}}
}

// symbol is the atom of a name.
func symbol(name string) api.Sexp { return atom(api.TokSymbol, name) }

// list is the list of these parts.
func list(parts ...api.Sexp) api.Sexp { return api.Sexp{List: true, L: parts} }

// apply is the list of an operation and its parts.
func apply(op int, parts ...api.Sexp) api.Sexp {
	return list(append([]api.Sexp{symbol(Name(op))}, parts...)...)
}

// truth is what a truth is told by.
func truth(b bool) api.Sexp {
	if b {
		return symbol("true")
	}
	return symbol("false")
}

// number is what a number is told by. No script has digits with a sign.
func number(n api.Whole) api.Sexp {
	digits := atom(api.TokNumeral, nat.Text(n.N))
	if whole.Sign(n) < 0 {
		return apply(api.OpNeg, digits)
	}
	return digits
}

// literal is that of a text that is short enough for one.
func literal(s []api.Run) api.Sexp {
	points, _ := lit.List(s, api.MaxShown)
	text, _ := lit.Escape(points)
	return atom(api.TokString, text)
}
