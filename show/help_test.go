package show_test

import (
	"math/big"
	"reflect"
	"strconv"
	"strings"
	"testing"

	"gudgeon/api"
	"gudgeon/build"
	"gudgeon/lit"
	"gudgeon/runs"
	"gudgeon/sexp"
	"gudgeon/show"
	"gudgeon/term"
	"gudgeon/whole"
)

// most is how many code points a text has at most.
const most = 1 << 40

// run is so many of one code point.
func run(c, n int) api.Run { return api.Run{C: c, N: n} }

// chars is the text that a literal says.
func chars(text string) []api.Run {
	l, _ := lit.Runs(lit.Points(text))
	return l
}

// zigzag is a text of n runs, of so many code points each: a, b, c, a, b ..
func zigzag(n, each int) []api.Run {
	l := make([]api.Run, n)
	for i := range l {
		l[i] = run(97+i%3, each)
	}
	return l
}

// lengths is a text whose runs are that long: a, b, c, a, b ..
func lengths(l ...int) []api.Run {
	s := zigzag(len(l), 1)
	for i, n := range l {
		s[i].N = n
	}
	return s
}

// truthOf, numberOf and textOf are values without anything besides what their sort says.
func truthOf(b bool) api.Value     { return api.Value{Sort: api.SortBool, B: b} }
func numberOf(n string) api.Value  { return api.Value{Sort: api.SortInt, I: num(n)} }
func textOf(s []api.Run) api.Value { return api.Value{Sort: api.SortStr, S: s} }

// num is the number that digits, with a - ahead or not, say.
func num(digits string) api.Whole {
	n, e := whole.Parse(digits)
	if e != api.OK {
		panic(digits + " is no number")
	}
	return n
}

// declared is what all tests have declared: truths p, q, r, numbers x, y, z, texts s, t, u.
func declared() []api.Decl {
	var l []api.Decl
	for i, names := range []string{"pqr", "xyz", "stu"} {
		for _, c := range names {
			l = append(l, api.Decl{Name: string(c), Sort: api.SortBool + i})
		}
	}
	return l
}

// made is the term that a script says, in the bank b.
func made(t *testing.T, b *term.Bank, script string) int {
	t.Helper()
	l := sexp.Read(script)
	if len(l) != 1 || l[0].E != api.OK {
		t.Fatalf("%s is no s-expression", some(script))
	}
	id, e := build.Term(b, declared(), l[0].X)
	if e != api.OK {
		t.Fatalf("%s: no term, error %d", some(script), e)
	}
	return id
}

// sure is a term's number, of which a bank has told that all is well.
func sure(t *testing.T) func(int, api.Errno) int {
	return func(id int, e api.Errno) int {
		t.Helper()
		if e != api.OK {
			t.Fatalf("no term, error %d", e)
		}
		return id
	}
}

// some is no more of a text than can be read at a glance.
func some(s string) string {
	if len(s) > 300 {
		return s[:300] + ".. (" + strconv.Itoa(len(s)) + " bytes)"
	}
	return s
}

// spelt is an s-expression's text, told anew, however deep it is: names stand in it without bars.
func spelt(x api.Sexp) string {
	if !x.List {
		if x.Tok.Kind == api.TokString {
			return `"` + strings.ReplaceAll(x.Tok.Text, `"`, `""`) + `"`
		}
		return x.Tok.Text
	}
	var parts []string
	for _, y := range x.L {
		parts = append(parts, spelt(y))
	}
	return "(" + strings.Join(parts, " ") + ")"
}

// wantBare complains if an s-expression has a place, or anything that its form has not.
func wantBare(t *testing.T, what string, x api.Sexp) {
	t.Helper()
	if x.List {
		if x.At != 0 || x.Tok != (api.Token{}) || len(x.L) == 0 {
			t.Errorf("%s: the list %+v", some(what), x)
		}
		for _, y := range x.L {
			wantBare(t, what, y)
		}
		return
	}
	kind := x.Tok.Kind
	if x.At != 0 || x.Tok.At != 0 || len(x.L) > 0 || kind != api.TokSymbol && kind != api.TokNumeral && kind != api.TokString {
		t.Errorf("%s: the atom %+v", some(what), x)
	}
}

// wantSays complains if an s-expression is not what a script says.
func wantSays(t *testing.T, what string, x api.Sexp, e api.Errno, script string) {
	t.Helper()
	if e != api.OK || spelt(x) != script {
		t.Errorf("%s: %s with error %d, not %s", some(what), some(spelt(x)), e, some(script))
		return
	}
	wantBare(t, what, x)
	wantRead(t, what, x)
}

// wantRead complains if what is printed of an s-expression, and short enough to be read, is read as
// another one.
func wantRead(t *testing.T, what string, x api.Sexp) {
	t.Helper()
	text, e := sexp.Print(x)
	if e != api.OK {
		t.Errorf("%s: can't be printed, error %d", some(what), e)
		return
	}
	if len(text) > api.MaxScript {
		return
	}
	l := sexp.Read(text)
	if len(l) == 1 && l[0].E == api.ErrLong {
		return
	}
	if len(l) != 1 || l[0].E != api.OK || !reflect.DeepEqual(kinds(l[0].X), kinds(x)) {
		t.Errorf("%s: %s is read as something else", some(what), some(text))
	}
}

// kinds is what an s-expression has, without places, in order.
func kinds(x api.Sexp) []api.Token {
	if !x.List {
		return []api.Token{{Kind: x.Tok.Kind, Text: x.Tok.Text}}
	}
	l := []api.Token{{Kind: api.TokOpen}}
	for _, y := range x.L {
		l = append(l, kinds(y)...)
	}
	return append(l, api.Token{Kind: api.TokClose})
}

// wantNone complains if there is another error than that, or anything beside it.
func wantNone(t *testing.T, what string, x api.Sexp, e, want api.Errno) {
	t.Helper()
	if e != want || !reflect.DeepEqual(x, api.Sexp{}) {
		t.Errorf("%s: %s with error %d, not nothing with %d", some(what), some(spelt(x)), e, want)
	}
}

// wantTerm complains if the term that a script says is told by another one.
func wantTerm(t *testing.T, script string) {
	t.Helper()
	var b term.Bank
	id := made(t, &b, script)
	was := b.Len()
	x, e := show.Term(&b, id)
	wantSays(t, script, x, e, script)
	if again := made(t, &b, spelt(x)); again != id || b.Len() != was {
		t.Errorf("%s: what it is told by is the term %d, not %d", some(script), again, id)
	}
}

// wantValue complains if a value is not told by what that script says.
func wantValue(t *testing.T, v api.Value, script string) {
	t.Helper()
	x, e := show.Value(v)
	wantSays(t, script, x, e, script)
}

// wantLong complains if a value is not too long.
func wantLong(t *testing.T, what string, v api.Value) {
	t.Helper()
	x, e := show.Value(v)
	wantNone(t, what, x, e, api.ErrLong)
}

// ownForm tells whether a text is in its own form; the tests lean on runs for that alone.
func ownForm(s []api.Run) bool { return runs.May(s) }

// decimal is a number's digits, told anew, with a - ahead of them below 0.
func decimal(n api.Whole) string {
	b := new(big.Int)
	for i := len(n.N) - 1; i >= 0; i-- {
		b.Lsh(b, 32).Or(b, big.NewInt(int64(n.N[i])))
	}
	if n.Neg {
		b.Neg(b)
	}
	return b.String()
}
