package sexp_test

import (
	"strings"
	"testing"

	"gudgeon/api"
	"gudgeon/sexp"
)

// wantRead complains if Read answers otherwise.
func wantRead(t *testing.T, s string, want ...api.Item) {
	t.Helper()
	wantItems(t, "Read of "+s[:min(len(s), 60)], sexp.Read(s), want)
}

func TestP62Scripts(t *testing.T) {
	wantRead(t, "(assert (= x \"a\"\"b\")) ; that\n(check-sat)",
		is(list(0, sym("assert", 1), list(8, sym("=", 9), sym("x", 11), atom(tok(api.TokString, `a"b`, 13))))), is(list(29, sym("check-sat", 30))))
	wantRead(t, "(pop) x (foo) (assert", is(list(0, sym("pop", 1))), is(sym("x", 6)), is(list(8, sym("foo", 9))), wrong(api.ErrEnd, 21))
}

func TestP62NothingInIt(t *testing.T) {
	for _, s := range []string{"", " ", "\t\r\n ", ";", "; a (", "; a )\n", "\n;x\n ;y (", strings.Repeat(" ", api.MaxScript)} {
		wantRead(t, s)
	}
}

// The end of a script that ends within a list is its length, not the end of its last token.
func TestP62TheEnd(t *testing.T) {
	for _, s := range []string{"(", "( ", "(\n\n", "(;", "(; x\n ", "(a (b) ; )"} {
		wantRead(t, s, wrong(api.ErrEnd, len(s)))
		wantRead(t, "x "+s, is(sym("x", 0)), wrong(api.ErrEnd, len(s)+2))
	}
}

// fault is what begins with an error, how far behind its beginning that is told, and which one it is.
type fault struct {
	s  string
	at int
	e  api.Errno
}

var faults = []fault{
	{`"`, 0, api.ErrEnd}, {`"ab`, 0, api.ErrEnd}, {`"ab""`, 0, api.ErrEnd}, {`|`, 0, api.ErrEnd}, {`|a b`, 0, api.ErrEnd}, {`") (x)`, 0, api.ErrEnd}, {`|) (x)`, 0, api.ErrEnd},
	{`|a\b|`, 0, api.ErrForm}, {`007`, 0, api.ErrForm}, {`1a`, 0, api.ErrForm}, {`1.`, 0, api.ErrForm}, {`: `, 0, api.ErrForm}, {`# `, 0, api.ErrForm}, {`#b2`, 0, api.ErrForm}, {`00) (x)`, 0, api.ErrForm},
	{`'`, 0, api.ErrByte}, {`[`, 0, api.ErrByte}, {`\`, 0, api.ErrByte}, {"\x00", 0, api.ErrByte}, {"\x7f", 0, api.ErrByte}, {"\xc3\xa4", 0, api.ErrByte}, {"; a\x01", 3, api.ErrByte}, {"\"a\x01\"", 2, api.ErrByte}, {"|\x01|", 1, api.ErrByte}, {"] ) (x)", 0, api.ErrByte},
}

// Behind an error nothing is told, and a list that is open there isn't, either.
func TestP62ErrorsOfLex(t *testing.T) {
	for _, f := range faults {
		for _, behind := range []string{"", " ", ")", " )) (y) (", "\n))))"} {
			s := f.s + behind
			wantRead(t, s, wrong(f.e, f.at))
			wantRead(t, "a (b) "+s, is(sym("a", 0)), is(list(2, sym("b", 3))), wrong(f.e, f.at+6))
			wantRead(t, "a ) "+s, is(sym("a", 0)), wrong(api.ErrClose, 2), wrong(f.e, f.at+4))
			wantRead(t, "( "+s, wrong(f.e, f.at+2))
			wantRead(t, "a (b) (c (d) "+s, is(sym("a", 0)), is(list(2, sym("b", 3))), wrong(f.e, f.at+13))
			wantRead(t, "(((a) "+s, wrong(f.e, f.at+6))
			wantRead(t, deep(65)+" "+s, wrong(api.ErrLong, 0), wrong(f.e, f.at+131))
			wantRead(t, strings.Repeat("(", 100)+" "+s, wrong(f.e, f.at+101))
		}
	}
}

// A script that ends within a literal, or within a name in bars, has one error more, be a list open or not.
func TestP62EndsWithinALiteral(t *testing.T) {
	wantRead(t, `(x "ab`, wrong(api.ErrEnd, 3))
	wantRead(t, `(x |ab`, wrong(api.ErrEnd, 3))
	wantRead(t, `(x) "ab`, is(list(0, sym("x", 1))), wrong(api.ErrEnd, 4))
	wantRead(t, `(x) |ab`, is(list(0, sym("x", 1))), wrong(api.ErrEnd, 4))
	wantRead(t, `(x) ((y) "ab) z`, is(list(0, sym("x", 1))), wrong(api.ErrEnd, 9))
	wantRead(t, `(x "ab" (y`, wrong(api.ErrEnd, 10))
	wantRead(t, `(x |ab| (y`, wrong(api.ErrEnd, 10))
}

func TestP62TooLong(t *testing.T) {
	for _, s := range []string{"x", "(", ")", " ", "()", `"`, ";", "\x00"} {
		wantRead(t, strings.Repeat(s, api.MaxScript+1), wrong(api.ErrLong, 0))
	}
	fill := strings.Repeat(" ", api.MaxScript-2)
	wantRead(t, fill+"()", is(list(api.MaxScript-2)))
	wantRead(t, "("+fill+")", is(list(0)))
	wantRead(t, "( "+fill, wrong(api.ErrEnd, api.MaxScript))
	wantRead(t, "() "+fill, wrong(api.ErrLong, 0))
	wantRead(t, "(  "+fill, wrong(api.ErrLong, 0))
}

// empties is the items of so many empty lists, one behind the other.
func empties(n int) []api.Item {
	var l []api.Item
	for i := range n {
		l = append(l, is(list(2*i)))
	}
	return l
}

func TestP62ATokenTooMany(t *testing.T) {
	half := api.MaxTokens / 2
	s := strings.Repeat("()", half)
	wantRead(t, s, empties(half)...)
	wantRead(t, s+" ;x", empties(half)...)
	for _, tail := range []string{"x", "(", ")", "()", `"`, "'", "007 ("} {
		wantRead(t, s+tail, append(empties(half), wrong(api.ErrLong, len(s)))...)
		wantRead(t, s+" ;\n"+tail, append(empties(half), wrong(api.ErrLong, len(s)+3))...)
		// With a list that is open.
		wantRead(t, s[2:]+"(("+tail, append(empties(half-1), wrong(api.ErrLong, len(s)))...)
		wantRead(t, "x("+s[2:]+tail, is(sym("x", 0)), wrong(api.ErrLong, len(s)))
		wantRead(t, "("+s[:len(s)-1]+tail, wrong(api.ErrLong, len(s)))
		wantRead(t, s[1:]+"("+tail, append([]api.Item{wrong(api.ErrClose, 0)}, append(moved(empties(half-1)), wrong(api.ErrLong, len(s)))...)...)
	}
	wantRead(t, s[2:]+"((", append(empties(half-1), wrong(api.ErrEnd, len(s)))...)
}

// moved is items one place further on.
func moved(l []api.Item) []api.Item {
	for i := range l {
		l[i].At++
		l[i].X.At++
	}
	return l
}
