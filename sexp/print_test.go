package sexp_test

import (
	"math"
	"strings"
	"testing"

	"gudgeon/api"
	"gudgeon/lex"
	"gudgeon/sexp"
)

// wantPrint complains if Print answers otherwise.
func wantPrint(t *testing.T, x api.Sexp, want string) {
	t.Helper()
	if got, e := sexp.Print(x); e != api.OK || got != want {
		t.Errorf("Print: %.60q, error %d, not %.60q", got, e, want)
	}
}

// wantNoPrint complains if something is printed, by itself or within a list.
func wantNoPrint(t *testing.T, x api.Sexp) {
	t.Helper()
	a := sym("a", 0)
	for _, y := range []api.Sexp{x, list(0, x), list(0, a, x), list(0, x, a), list(0, list(1), list(2, a, list(3, x), a))} {
		if got, e := sexp.Print(y); e != api.ErrArg || got != "" {
			t.Errorf("Print of what has %d %.60q: %.60q, error %d", x.Tok.Kind, x.Tok.Text, got, e)
		}
	}
}

// wantDepth complains if Depth answers otherwise.
func wantDepth(t *testing.T, x api.Sexp, want int) {
	t.Helper()
	if got := sexp.Depth(x); got != want {
		t.Errorf("Depth: %d, not %d", got, want)
	}
}

// around is x with so many lists around it.
func around(x api.Sexp, n int) api.Sexp {
	for range n {
		x = list(0, x)
	}
	return x
}

func TestP63Atoms(t *testing.T) {
	for _, x := range []api.Token{
		tok(api.TokSymbol, "x", 0), tok(api.TokSymbol, "", 3), tok(api.TokSymbol, "a b", -1), tok(api.TokSymbol, "(", 0), tok(api.TokSymbol, ")", 0), tok(api.TokSymbol, "7", 0),
		tok(api.TokNumeral, "7", 0), tok(api.TokDecimal, "1.50", 0), tok(api.TokString, "", 0), tok(api.TokString, `a"b""`, 0), tok(api.TokString, "(", 0), tok(api.TokKeyword, ":k", 0), tok(api.TokOther, "#xAf", 0), tok(api.TokOther, "#b01", 0),
	} {
		text, e := lex.Show(x)
		if e != api.OK {
			t.Fatalf("Show(%v): error %d", x, e)
		}
		wantPrint(t, atom(x), text)
		wantPrint(t, api.Sexp{Tok: x, At: 99}, text)
		wantPrint(t, api.Sexp{Tok: x, L: []api.Sexp{}}, text)
		wantPrint(t, list(0, atom(x)), "("+text+")")
		wantPrint(t, list(0, atom(x), atom(x)), "("+text+" "+text+")")
	}
	wantPrint(t, sym("x y", 0), "|x y|")
	wantPrint(t, atom(tok(api.TokString, `"`, 0)), `""""`)
}

func TestP63Lists(t *testing.T) {
	a, b, s := sym("a", 7), sym("b", -7), atom(tok(api.TokString, "s", 0))
	wantPrint(t, list(0), "()")
	wantPrint(t, api.Sexp{List: true, L: []api.Sexp{}}, "()")
	wantPrint(t, list(0, list(0), list(0)), "(() ())")
	wantPrint(t, list(0, a), "(a)")
	wantPrint(t, list(5, a, b), "(a b)")
	wantPrint(t, list(0, a, list(0, b, list(0)), s, s), `(a (b ()) "s" "s")`)
	wantPrint(t, list(0, list(0, list(0, a)), b), "(((a)) b)")
	wantPrint(t, list(0, s, a, s), `("s" a "s")`)
}

// What a list has beside its elements isn't printed, be it a token that may not be.
func TestP63ListsWithATok(t *testing.T) {
	for _, x := range []api.Token{tok(api.TokSymbol, "x", 1), tok(api.TokOpen, "(", 1), tok(api.TokClose, ")", 1), tok(0, "y", 1), tok(api.TokNumeral, "01", 1)} {
		wantPrint(t, api.Sexp{List: true, Tok: x}, "()")
		wantPrint(t, api.Sexp{List: true, Tok: x, L: []api.Sexp{sym("a", 0), {List: true, Tok: x}}}, "(a ())")
		wantDepth(t, api.Sexp{List: true, Tok: x, L: []api.Sexp{sym("a", 0), {List: true, Tok: x}}}, 2)
	}
}

func TestP63WrongAtoms(t *testing.T) {
	for _, x := range []api.Token{
		{}, tok(0, "x", 0), tok(-1, "x", 0), tok(9, "x", 0), tok(math.MaxInt, "x", 0), tok(math.MinInt, "x", 0),
		tok(api.TokOpen, "(", 0), tok(api.TokClose, ")", 0), tok(api.TokOpen, ")", 0), tok(api.TokClose, "(", 0), tok(api.TokOpen, "x", 0), tok(api.TokClose, "", 0),
		tok(api.TokSymbol, "|", 0), tok(api.TokSymbol, `\`, 0), tok(api.TokSymbol, "\x00", 0), tok(api.TokSymbol, "ä", 0),
		tok(api.TokNumeral, "", 0), tok(api.TokNumeral, "01", 0), tok(api.TokNumeral, "-1", 0), tok(api.TokNumeral, "1 2", 0), tok(api.TokNumeral, "(", 0), tok(api.TokDecimal, "1", 0),
		tok(api.TokString, "\x00", 0), tok(api.TokString, strings.Repeat("x", api.MaxScript), 0), tok(api.TokKeyword, "k", 0), tok(api.TokKeyword, ":", 0), tok(api.TokOther, "#", 0),
	} {
		wantNoPrint(t, atom(x))
		wantDepth(t, atom(x), 0)
	}
}

func TestP63AtomsWithAnL(t *testing.T) {
	for _, x := range []api.Sexp{sym("x", 0), atom(tok(api.TokNumeral, "7", 0)), {}} {
		for _, l := range [][]api.Sexp{{sym("y", 0)}, {{}}, {list(0)}, {nested(64, 0)}, {around(sym("x", 0), 1000)}} {
			x.L = l
			wantNoPrint(t, x)
			wantDepth(t, x, 0)
			wantDepth(t, list(0, x), 1)
		}
	}
	wantNoPrint(t, api.Sexp{})
	wantNoPrint(t, api.Sexp{L: []api.Sexp{}})
}

func TestP63Depth(t *testing.T) {
	wantDepth(t, api.Sexp{}, 0)
	wantDepth(t, sym("x", 0), 0)
	wantDepth(t, list(0), 1)
	wantDepth(t, api.Sexp{List: true, L: []api.Sexp{}}, 1)
	wantDepth(t, list(0, sym("x", 0)), 1)
	wantDepth(t, list(0, list(0), sym("x", 0)), 2)
	wantDepth(t, list(0, sym("x", 0), list(0, list(0)), list(0)), 3)
	wantDepth(t, list(0, list(0), list(0, sym("x", 0)), list(0, list(0, list(0)))), 4)
	wantDepth(t, list(0, api.Sexp{}), 1)
	for n := 1; n < 200; n++ {
		wantDepth(t, nested(n, 0), min(n, 65))
		wantDepth(t, around(sym("x", 0), n), min(n, 65))
		wantDepth(t, list(0, list(0), nested(n, 0), list(0)), min(n+1, 65))
		wantDepth(t, list(0, nested(3, 0), list(0, nested(n, 0))), min(max(n+2, 4), 65))
	}
}

func TestP63TooDeepToBePrinted(t *testing.T) {
	for _, n := range []int{1, 2, 63, 64} {
		wantPrint(t, nested(n, 0), deep(n))
		wantPrint(t, around(sym("x", 0), n), strings.Repeat("(", n)+"x"+strings.Repeat(")", n))
	}
	wantPrint(t, list(0, nested(63, 0), nested(63, 0)), "("+deep(63)+" "+deep(63)+")")
	for _, n := range []int{65, 66, 100, 100000} {
		wantNoPrint(t, nested(n, 0))
		wantNoPrint(t, around(sym("x", 0), n))
		wantNoPrint(t, around(tooWrong(), n))
	}
	wantNoPrint(t, list(0, list(0), nested(64, 0)))
	wantNoPrint(t, list(0, nested(64, 0), list(0)))
}

// tooWrong is an atom that is a bracket.
func tooWrong() api.Sexp { return atom(tok(api.TokOpen, "(", 0)) }

// A list may have itself: it's deeper than any number.
func TestP1ListsOfThemselves(t *testing.T) {
	l := make([]api.Sexp, 2)
	x := list(0, l...)
	l[0], l[1] = x, x
	wantDepth(t, x, 65)
	wantNoPrint(t, x)
	l[0] = sym("a", 0)
	wantDepth(t, x, 65)
	wantNoPrint(t, x)
	l[0], l[1] = list(0, x, x), sym("a", 0)
	wantDepth(t, x, 65)
	wantNoPrint(t, x)
	l[0] = api.Sexp{Tok: tok(api.TokSymbol, "a", 0), L: l}
	wantDepth(t, x, 1)
	wantNoPrint(t, x)
}

func TestP1ZeroValues(t *testing.T) {
	wantItems(t, "zero", sexp.Parse([]api.Token{{}}, 0), []api.Item{{}})
	wantItems(t, "nil", sexp.Parse(nil, 0), nil)
	wantItems(t, "empty", sexp.Read(""), nil)
	wantDepth(t, api.Sexp{}, 0)
	wantNoPrint(t, api.Sexp{})
}
