package build_test

import (
	"slices"
	"strconv"
	"strings"
	"sync"
	"testing"

	"gudgeon/api"
	"gudgeon/build"
	"gudgeon/nat"
	"gudgeon/sexp"
	"gudgeon/term"
)

// atom is a token that stands by itself.
func atom(kind int, text string) api.Sexp { return api.Sexp{Tok: api.Token{Kind: kind, Text: text}} }

// sym is a name.
func sym(name string) api.Sexp { return atom(api.TokSymbol, name) }

// num is a numeral.
func num(digits string) api.Sexp { return atom(api.TokNumeral, digits) }

// str is a literal.
func str(text string) api.Sexp { return atom(api.TokString, text) }

// list is a list.
func list(l ...api.Sexp) api.Sexp { return api.Sexp{List: true, L: l} }

// read is the s-expression that a text is.
func read(t *testing.T, text string) api.Sexp {
	t.Helper()
	l := sexp.Read(text)
	if len(l) != 1 || l[0].E != api.OK {
		t.Fatalf("%s is no s-expression", text)
	}
	return l[0].X
}

// sortNamed is the sort of a name, told anew; 0 of one that is none.
func sortNamed(x api.Sexp) int {
	return slices.Index([]string{"", "Bool", "Int", "String"}, x.Tok.Text)
}

// decl is a declaration: (name sort), or, of a function, (name ((parameter sort) ..) sort body).
func decl(t *testing.T, text string) api.Decl {
	t.Helper()
	l := read(t, text).L
	if len(l) == 2 {
		return api.Decl{Name: l[0].Tok.Text, Sort: sortNamed(l[1])}
	}
	d := api.Decl{Name: l[0].Tok.Text, Sort: sortNamed(l[2]), Macro: true, Body: l[3]}
	for _, p := range l[1].L {
		d.Params = append(d.Params, api.Param{Name: p.L[0].Tok.Text, Sort: sortNamed(p.L[1])})
	}
	return d
}

// decls is some declarations.
func decls(t *testing.T, texts ...string) []api.Decl {
	t.Helper()
	var l []api.Decl
	for _, text := range texts {
		l = append(l, decl(t, text))
	}
	return l
}

// stock is what most tests have declared.
func stock(t *testing.T) []api.Decl {
	t.Helper()
	return decls(t, "(p Bool)", "(q Bool)", "(x Int)", "(y Int)", "(s String)", "(t String)",
		"(one () Int 1)", "(yes () Bool (or p q))", "(inc ((a Int)) Int (+ a 1))", "(both ((a Bool) (b Bool)) Bool (and a b))",
		"(pick ((c Bool) (a Int) (b Int)) Int (ite c a b))", "(dup ((u String)) String (str.++ u u))", "(same ((u String)) String u)")
}

// opNames is the names of the operations by their numbers, in the order of the chapter.
var opNames = sync.OnceValue(func() map[int]string {
	names := map[int]string{api.OpNeg: "-"}
	op := api.OpNot
	for _, name := range strings.Fields("not and or => xor = distinct ite + - * <= < >= > str.++ str.len str.at str.substr str.prefixof str.suffixof str.contains str.indexof str.replace") {
		if op == api.OpNeg {
			op++
		}
		names[op] = name
		op++
	}
	return names
})

// told is a term as a script would say it.
func told(b *term.Bank, id int) string {
	n, is := b.At(id)
	switch {
	case !is:
		return "no term"
	case n.Op == api.OpConst:
		return n.Name
	case n.Op == api.OpTrue:
		return "true"
	case n.Op == api.OpFalse:
		return "false"
	case n.Op == api.OpNum:
		return nat.Text(n.Num.N)
	case n.Op == api.OpStr:
		return toldText(n.Str)
	}
	s := opNames()[n.Op]
	for _, part := range n.A {
		s += " " + told(b, part)
	}
	return "(" + s + ")"
}

// toldText is a text between quotes.
func toldText(l []api.Run) string {
	var s strings.Builder
	for _, r := range l {
		s.WriteString(strings.Repeat(string(rune(r.C)), r.N))
	}
	return `"` + s.String() + `"`
}

// toldAll is all terms of a bank, in order.
func toldAll(b *term.Bank) []string {
	var l []string
	for id := range b.Len() {
		l = append(l, told(b, id))
	}
	return l
}

// nodes is all terms of a bank as they are.
func nodes(b *term.Bank) []api.Node {
	var l []api.Node
	for id := range b.Len() {
		n, _ := b.At(id)
		l = append(l, n)
	}
	return l
}

// short is no more of a text than can be read at a glance.
func short(s string) string {
	if len(s) > 80 {
		return s[:80] + ".. (" + strconv.Itoa(len(s)) + " bytes)"
	}
	return s
}

// shown is an s-expression, to complain about it.
func shown(x api.Sexp) string {
	s, e := sexp.Print(x)
	if e != api.OK {
		return "an s-expression that can't be printed"
	}
	return short(s)
}

// wantSexp complains if the term of x, in a new bank, is told otherwise, and answers the bank and the term.
func wantSexp(t *testing.T, l []api.Decl, x api.Sexp, want string) (*term.Bank, int) {
	t.Helper()
	b := &term.Bank{}
	id, e := build.Term(b, l, x)
	if e != api.OK {
		t.Errorf("%s: error %d, not %s", shown(x), e, short(want))
	} else if got := told(b, id); got != want {
		t.Errorf("%s: %s, not %s", shown(x), short(got), short(want))
	}
	return b, id
}

// wantTerm complains if the term of a text is told otherwise.
func wantTerm(t *testing.T, l []api.Decl, text, want string) {
	t.Helper()
	wantSexp(t, l, read(t, text), want)
}

// wantError complains if there is another error, or what is in the bank then is told otherwise.
func wantError(t *testing.T, l []api.Decl, x api.Sexp, want api.Errno, behind ...string) {
	t.Helper()
	b := &term.Bank{}
	id, e := build.Term(b, l, x)
	if e != want || id != 0 {
		t.Errorf("%s: %d with error %d, not 0 with %d", shown(x), id, e, want)
	}
	if got := toldAll(b); !slices.Equal(got, behind) {
		t.Errorf("%s: the bank has %q, not %q", shown(x), got, behind)
	}
}

// wrong is a text, the error of its term, and what is in the bank then.
type wrong struct {
	text   string
	e      api.Errno
	behind []string
}

// wantErrors complains of each that is otherwise.
func wantErrors(t *testing.T, l []api.Decl, all ...wrong) {
	t.Helper()
	for _, w := range all {
		wantError(t, l, read(t, w.text), w.e, w.behind...)
	}
}

// in is what a bank is to have, in order.
func in(terms ...string) []string { return terms }
