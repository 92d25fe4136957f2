package sexp_test

import (
	"math"
	"slices"
	"strings"
	"testing"

	"gudgeon/api"
	"gudgeon/lex"
	"gudgeon/sexp"
)

// tok is a token, with a place.
func tok(kind int, text string, at int) api.Token { return api.Token{Kind: kind, Text: text, At: at} }

// sym is the atom of a name at a place.
func sym(text string, at int) api.Sexp { return atom(tok(api.TokSymbol, text, at)) }

// atom is the s-expression that a token is.
func atom(t api.Token) api.Sexp { return api.Sexp{Tok: t, At: t.At} }

// list is a list at a place.
func list(at int, l ...api.Sexp) api.Sexp { return api.Sexp{List: true, At: at, L: l} }

// is is the item of an s-expression; wrong is one of an error at a place.
func is(x api.Sexp) api.Item { return api.Item{X: x, At: x.At} }

func wrong(e api.Errno, at int) api.Item { return api.Item{E: e, At: at} }

// same tells whether two s-expressions are the same; a list without elements may be nil or empty.
func same(a, b api.Sexp) bool {
	return a.List == b.List && a.Tok == b.Tok && a.At == b.At && slices.EqualFunc(a.L, b.L, same)
}

// sameItem tells whether two items are the same.
func sameItem(a, b api.Item) bool { return a.E == b.E && a.At == b.At && same(a.X, b.X) }

// wantItems complains if items are others than those.
func wantItems(t *testing.T, what string, got, want []api.Item) {
	t.Helper()
	if len(got) != len(want) {
		t.Errorf("%s: %d items, not %d: %.300s", what, len(got), len(want), text(got))
		return
	}
	for i := range got {
		if !sameItem(got[i], want[i]) {
			t.Errorf("%s: item %d is %.300s, not %.300s", what, i, text(got[i:i+1]), text(want[i:i+1]))
			return
		}
	}
}

// toks is the tokens of a script without faults; its end is the script's length.
func toks(t *testing.T, s string) []api.Token {
	t.Helper()
	l, e, _ := lex.Lex(s)
	if e != api.OK {
		t.Fatalf("Lex(%.60q): error %d", s, e)
	}
	return l
}

// wantParse complains if Parse of a script's tokens answers otherwise, or Read of the script does.
func wantParse(t *testing.T, s string, want ...api.Item) {
	t.Helper()
	short := s[:min(len(s), 60)]
	wantItems(t, "Parse of "+short, sexp.Parse(toks(t, s), len(s)), want)
	wantItems(t, "Read of "+short, sexp.Read(s), want)
}

// nested is a list of that depth, at that place: the inmost one is empty.
func nested(depth, at int) api.Sexp {
	x := list(at + depth - 1)
	for i := depth - 2; i >= 0; i-- {
		x = list(at+i, x)
	}
	return x
}

// deep is the script of nested.
func deep(depth int) string { return strings.Repeat("(", depth) + strings.Repeat(")", depth) }

func TestP61Example(t *testing.T) {
	wantParse(t, "a (b (c) ) ) (d", is(sym("a", 0)), is(list(2, sym("b", 3), list(5, sym("c", 6)))), wrong(api.ErrClose, 11), wrong(api.ErrEnd, 15))
}

func TestP61NoTokens(t *testing.T) {
	for _, end := range []int{0, 1, -1, 16384, math.MaxInt, math.MinInt} {
		wantItems(t, "nil", sexp.Parse(nil, end), nil)
		wantItems(t, "none", sexp.Parse([]api.Token{}, end), nil)
		wantItems(t, "none of some", sexp.Parse([]api.Token{tok(api.TokOpen, "(", 0)}[:0], end), nil)
	}
}

func TestP61Atoms(t *testing.T) {
	s := `x |a b| 7 1.5 "a""b" :k #x1 #b0`
	want := []api.Item{
		is(sym("x", 0)), is(sym("a b", 2)), is(atom(tok(api.TokNumeral, "7", 8))), is(atom(tok(api.TokDecimal, "1.5", 10))),
		is(atom(tok(api.TokString, `a"b`, 14))), is(atom(tok(api.TokKeyword, ":k", 21))), is(atom(tok(api.TokOther, "#x1", 24))), is(atom(tok(api.TokOther, "#b0", 28))),
	}
	wantParse(t, s, want...)
	var l []api.Sexp
	for _, w := range want {
		w.X.At++
		w.X.Tok.At++
		l = append(l, w.X)
	}
	wantParse(t, "("+s+")", is(list(0, l...)))
}

func TestP61Lists(t *testing.T) {
	wantParse(t, "()", is(list(0)))
	wantParse(t, " ( ) ()", is(list(1)), is(list(5)))
	wantParse(t, "(())", is(list(0, list(1))))
	wantParse(t, "(()())()", is(list(0, list(1), list(3))), is(list(6)))
	wantParse(t, "((())())", is(list(0, list(1, list(2)), list(5))))
	wantParse(t, "(a)", is(list(0, sym("a", 1))))
	wantParse(t, "(a b)c(d)", is(list(0, sym("a", 1), sym("b", 3))), is(sym("c", 5)), is(list(6, sym("d", 7))))
	wantParse(t, "(a(b c)d(e)()f)", is(list(0, sym("a", 1), list(2, sym("b", 3), sym("c", 5)), sym("d", 7), list(8, sym("e", 9)), list(11), sym("f", 13))))
	wantParse(t, "((a)b((c)d))", is(list(0, list(1, sym("a", 2)), sym("b", 4), list(5, list(6, sym("c", 7)), sym("d", 9)))))
}

func TestP61BracketsThatCloseNothing(t *testing.T) {
	wantParse(t, ")", wrong(api.ErrClose, 0))
	wantParse(t, "  )", wrong(api.ErrClose, 2))
	wantParse(t, ") a", wrong(api.ErrClose, 0), is(sym("a", 2)))
	wantParse(t, "a)", is(sym("a", 0)), wrong(api.ErrClose, 1))
	wantParse(t, "())", is(list(0)), wrong(api.ErrClose, 2))
	wantParse(t, ")))", wrong(api.ErrClose, 0), wrong(api.ErrClose, 1), wrong(api.ErrClose, 2))
	wantParse(t, ")a)(b)))c", wrong(api.ErrClose, 0), is(sym("a", 1)), wrong(api.ErrClose, 2), is(list(3, sym("b", 4))), wrong(api.ErrClose, 6), wrong(api.ErrClose, 7), is(sym("c", 8)))
	wantParse(t, "((a)))(b)", is(list(0, list(1, sym("a", 2)))), wrong(api.ErrClose, 5), is(list(6, sym("b", 7))))
	wantParse(t, ")(", wrong(api.ErrClose, 0), wrong(api.ErrEnd, 2))
	wantParse(t, ") ( )) (", wrong(api.ErrClose, 0), is(list(2)), wrong(api.ErrClose, 5), wrong(api.ErrEnd, 8))
}

func TestP61ListsThatAreNotClosed(t *testing.T) {
	for _, s := range []string{"(", "(a", "(a ", "((", "(()", "(() ", "((a)", "(a (b) c", "((a) (b)", "(a () 7 \"x\"", "(a ; )", `(")"`, "(|)|", "(()()((", "( ; ("} {
		wantParse(t, s, wrong(api.ErrEnd, len(s)))
		wantParse(t, "(z) "+s, is(list(0, sym("z", 1))), wrong(api.ErrEnd, len(s)+4))
		wantParse(t, deep(64)+s, is(nested(64, 0)), wrong(api.ErrEnd, len(s)+128))
	}
	wantParse(t, "a (b) (c", is(sym("a", 0)), is(list(2, sym("b", 3))), wrong(api.ErrEnd, 8))
	// What stands behind a list that is not closed is within it.
	wantParse(t, "a (b (c) d (e", is(sym("a", 0)), wrong(api.ErrEnd, 13))
	wantParse(t, "a (b (c)) (d (e) f", is(sym("a", 0)), is(list(2, sym("b", 3), list(5, sym("c", 6)))), wrong(api.ErrEnd, 18))
	// An inner list that is not closed takes the bracket of the outer one.
	wantParse(t, "(a (b c) (d e)", wrong(api.ErrEnd, 14))
	wantParse(t, "(a (b c)", wrong(api.ErrEnd, 8))
	wantParse(t, "(assert (= x 1) (check-sat) (pop)", wrong(api.ErrEnd, 33))
	// A bracket too many, earlier, closes none of what is opened later.
	wantParse(t, "a) ) (b", is(sym("a", 0)), wrong(api.ErrClose, 1), wrong(api.ErrClose, 3), wrong(api.ErrEnd, 7))
	wantParse(t, "(a)) ((b)", is(list(0, sym("a", 1))), wrong(api.ErrClose, 3), wrong(api.ErrEnd, 9))
}

func TestP61AnyEnd(t *testing.T) {
	for _, end := range []int{0, 1, 2, 3, 4, -1, -7, 16384, 99999, math.MaxInt, math.MinInt} {
		wantItems(t, "( x", sexp.Parse(toks(t, "( x"), end), []api.Item{wrong(api.ErrEnd, end)})
		wantItems(t, "( x )", sexp.Parse(toks(t, "( x )"), end), []api.Item{is(list(0, sym("x", 2)))})
		wantItems(t, "x ) (", sexp.Parse(toks(t, "x ) ("), end), []api.Item{is(sym("x", 0)), wrong(api.ErrClose, 2), wrong(api.ErrEnd, end)})
	}
}

func TestP61Depths(t *testing.T) {
	for _, n := range []int{1, 2, 3, 62, 63, 64} {
		wantParse(t, deep(n), is(nested(n, 0)))
		wantParse(t, deep(n)+"a", is(nested(n, 0)), is(sym("a", 2*n)))
		wantParse(t, "a"+deep(n), is(sym("a", 0)), is(nested(n, 1)))
		wantParse(t, deep(n)+")", is(nested(n, 0)), wrong(api.ErrClose, 2*n))
		wantParse(t, "("+deep(n), wrong(api.ErrEnd, 2*n+1))
	}
	for _, n := range []int{65, 66, 128, 129, 1000, 1800} {
		s := deep(n)
		wantParse(t, s, wrong(api.ErrLong, 0))
		wantParse(t, " "+s+" a", wrong(api.ErrLong, 1), is(sym("a", 2*n+2)))
		wantParse(t, "a (b)"+s, is(sym("a", 0)), is(list(2, sym("b", 3))), wrong(api.ErrLong, 5))
		wantParse(t, deep(64)+s+deep(64), is(nested(64, 0)), wrong(api.ErrLong, 128), is(nested(64, 128+2*n)))
		wantParse(t, s+deep(65), wrong(api.ErrLong, 0), wrong(api.ErrLong, 2*n))
		wantParse(t, s+")", wrong(api.ErrLong, 0), wrong(api.ErrClose, 2*n))
		wantParse(t, "("+s, wrong(api.ErrEnd, 2*n+1))
		wantParse(t, s[1:], lacking(n)...)
		wantParse(t, s[:2*n-1], wrong(api.ErrEnd, 2*n-1))
	}
}

// lacking is the items of deep(n) without its first bracket.
func lacking(n int) []api.Item {
	if n-1 > 64 {
		return []api.Item{wrong(api.ErrLong, 0), wrong(api.ErrClose, 2*n-2)}
	}
	return []api.Item{is(nested(n-1, 0)), wrong(api.ErrClose, 2*n-2)}
}

// A list that is too deep is that one that stands by itself: what it has isn't told by itself.
func TestP61TooDeepInAnInnerPlace(t *testing.T) {
	wantParse(t, "(a "+deep(64)+" b)", wrong(api.ErrLong, 0))
	wantParse(t, "(a "+deep(63)+" b)", is(list(0, sym("a", 1), nested(63, 3), sym("b", 130))))
	wantParse(t, "(a (b "+deep(63)+") (c)) d", wrong(api.ErrLong, 0), is(sym("d", 139)))
	wantParse(t, "(a (b "+deep(62)+") (c)) d", is(list(0, sym("a", 1), list(3, sym("b", 4), nested(62, 6)), list(132, sym("c", 133)))), is(sym("d", 137)))
	// It's deep enough to be too deep at one place, be that the first or the last one.
	wantParse(t, "("+deep(64)+deep(2)+")", wrong(api.ErrLong, 0))
	wantParse(t, "("+deep(2)+deep(64)+")", wrong(api.ErrLong, 0))
	wantParse(t, "("+deep(63)+deep(63)+")", is(list(0, nested(63, 1), nested(63, 127))))
	// An atom doesn't make it deeper.
	s := strings.Repeat("(", 64) + "a" + strings.Repeat(")", 64)
	x := list(63, sym("a", 64))
	for i := 62; i >= 0; i-- {
		x = list(i, x)
	}
	wantParse(t, s, is(x))
	wantParse(t, "("+s+")", wrong(api.ErrLong, 0))
}

// far is the tokens of deep(n), as no script could have them.
func far(n int) []api.Token {
	l := make([]api.Token, 2*n)
	for i := range n {
		l[i], l[2*n-1-i] = tok(api.TokOpen, "(", i), tok(api.TokClose, ")", 2*n-1-i)
	}
	return l
}

func TestP61FarTooDeep(t *testing.T) {
	const n = 1000000
	l := far(n)
	wantItems(t, "far", sexp.Parse(l, 7), []api.Item{wrong(api.ErrLong, 0)})
	wantItems(t, "far and more", sexp.Parse(append(l, tok(api.TokSymbol, "x", 9)), 7), []api.Item{wrong(api.ErrLong, 0), is(sym("x", 9))})
	wantItems(t, "far and not closed", sexp.Parse(l[:2*n-1], 7), []api.Item{wrong(api.ErrEnd, 7)})
	wantItems(t, "half of far", sexp.Parse(l[:n], 7), []api.Item{wrong(api.ErrEnd, 7)})
	if got := sexp.Parse(l[n:], 7); len(got) != n || got[n-1].At != 2*n-1 || got[0].E != api.ErrClose {
		t.Errorf("%d items", len(got))
	}
	wide := []api.Token{tok(api.TokOpen, "(", 0)}
	for i := range n {
		wide = append(wide, tok(api.TokNumeral, "1", i+1))
	}
	got := sexp.Parse(append(wide, tok(api.TokClose, ")", n+1)), 7)
	if len(got) != 1 || got[0].E != api.OK || len(got[0].X.L) != n || got[0].X.L[n-1].At != n {
		t.Errorf("wide: %.300s", text(got))
	}
}

func TestP61KindsThatLexDoesNotTell(t *testing.T) {
	for _, kind := range []int{0, -1, -2, 9, 10, 100, 256 + api.TokOpen, 256 + api.TokClose, 1<<32 + api.TokOpen, -api.TokOpen, -api.TokClose, math.MaxInt, math.MinInt} {
		for _, s := range []string{"", "(", ")", "x", "()", "\x00"} {
			a, b := tok(kind, s, 5), tok(kind, s, 6)
			open, shut := tok(api.TokOpen, "(", 1), tok(api.TokClose, ")", 2)
			wantItems(t, "one", sexp.Parse([]api.Token{a}, 9), []api.Item{is(atom(a))})
			wantItems(t, "two", sexp.Parse([]api.Token{a, b}, 9), []api.Item{is(atom(a)), is(atom(b))})
			wantItems(t, "within", sexp.Parse([]api.Token{open, a, b, shut}, 9), []api.Item{is(list(1, atom(a), atom(b)))})
			wantItems(t, "not closed", sexp.Parse([]api.Token{a, open, a}, 9), []api.Item{is(atom(a)), wrong(api.ErrEnd, 9)})
		}
	}
}

// Brackets are told by their Kind alone.
func TestP61BracketsByTheirKind(t *testing.T) {
	for _, s := range []string{"", "(", ")", "x", "\x00"} {
		open, shut := tok(api.TokOpen, s, 3), tok(api.TokClose, s, 4)
		wantItems(t, "a list", sexp.Parse([]api.Token{open, shut}, 9), []api.Item{is(list(3))})
		wantItems(t, "closes", sexp.Parse([]api.Token{shut, open}, 9), []api.Item{wrong(api.ErrClose, 4), wrong(api.ErrEnd, 9)})
	}
	for kind := api.TokSymbol; kind <= api.TokOther; kind++ {
		open, shut := tok(kind, "(", 3), tok(kind, ")", 4)
		wantItems(t, "atoms", sexp.Parse([]api.Token{shut, open, shut}, 9), []api.Item{is(atom(shut)), is(atom(open)), is(atom(shut))})
	}
	wantParse(t, `|(| ")" (|)| "(")`, is(sym("(", 0)), is(atom(tok(api.TokString, ")", 4))), is(list(8, sym(")", 9), atom(tok(api.TokString, "(", 13)))))
}

// Places are handed on as they are.
func TestP61AnyPlaces(t *testing.T) {
	for _, at := range [][]int{{0, 0, 0, 0, 0}, {5, 4, 3, 2, 1}, {-1, -2, -3, -4, -5}, {7, -7, 7, -7, 7}, {math.MaxInt, math.MinInt, 0, math.MaxInt, -1}} {
		l := []api.Token{tok(api.TokOpen, "(", at[0]), tok(api.TokSymbol, "x", at[1]), tok(api.TokOpen, "(", at[2]), tok(api.TokClose, ")", at[3]), tok(api.TokClose, ")", at[4])}
		wantItems(t, "a list", sexp.Parse(l, -9), []api.Item{is(list(at[0], sym("x", at[1]), list(at[2])))})
		wantItems(t, "its end", sexp.Parse(l[1:], -9), []api.Item{is(sym("x", at[1])), is(list(at[2])), wrong(api.ErrClose, at[4])})
		wantItems(t, "its beginning", sexp.Parse(l[:4], -9), []api.Item{wrong(api.ErrEnd, -9)})
	}
	var l []api.Token
	for range 65 {
		l = append(l, tok(api.TokOpen, "(", -3))
	}
	for range 65 {
		l = append(l, tok(api.TokClose, ")", -4))
	}
	wantItems(t, "too deep", sexp.Parse(l, -9), []api.Item{wrong(api.ErrLong, -3)})
}
