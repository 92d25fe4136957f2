package show_test

import (
	"reflect"
	"slices"
	"testing"

	"gudgeon/api"
	"gudgeon/show"
	"gudgeon/term"
)

// nodes is all terms of a bank as they are.
func nodes(b *term.Bank) []api.Node {
	var l []api.Node
	for id := range b.Len() {
		n, _ := b.At(id)
		l = append(l, n)
	}
	return l
}

// spoil writes over all lists of an s-expression, as far as they have room.
func spoil(x api.Sexp) {
	for i := range x.L[:cap(x.L)] {
		y := &x.L[:cap(x.L)][i]
		spoil(*y)
		*y = api.Sexp{List: true, At: 99, Tok: api.Token{Kind: 99, Text: "spoilt", At: 99}}
	}
}

// ownScripts is terms in which some stand more than once.
func ownScripts() []string {
	return []string{
		"p", "x", "7", `"abba"`, "true", "(- x)", "(+ x x)", "(+ (+ x 1) (+ x 1) (+ x 1))", "(= (- (- x)) (- x) (- (- x)))", "(and (not p) (or (not p) (not p)) (not p))", `(str.++ (str.++ s "a") (str.++ s "a") (str.at (str.++ s "a") 1))`, "(ite (= x x) (* 2 x) (* 2 x))",
	}
}

func TestR3Terms(t *testing.T) {
	for _, script := range ownScripts() {
		var b term.Bank
		id := made(t, &b, script)
		was := nodes(&b)
		x, e := show.Term(&b, id)
		again, f := show.Term(&b, id)
		if e != api.OK || f != api.OK {
			t.Errorf("%s: errors %d and %d", script, e, f)
		}
		spoil(x)
		if !reflect.DeepEqual(nodes(&b), was) {
			t.Errorf("%s: the bank was changed", script)
		}
		wantSays(t, script, again, f, script)
		x, e = show.Term(&b, id)
		wantSays(t, script, x, e, script)
	}
}

// No list that is told shares its room with another one: who adds to one changes no other one.
func wantOwnRoom(t *testing.T, what string, x api.Sexp) {
	t.Helper()
	text := spelt(x)
	lists := []api.Sexp{}
	var gather func(x api.Sexp)
	gather = func(x api.Sexp) {
		if x.List {
			lists = append(lists, x)
		}
		for _, y := range x.L {
			gather(y)
		}
	}
	gather(x)
	for _, y := range lists {
		for range 5 {
			y.L = append(y.L, api.Sexp{Tok: api.Token{Kind: api.TokSymbol, Text: "more"}})
		}
	}
	if spelt(x) != text {
		t.Errorf("%s: what was added to one list stands in another one", some(what))
	}
	seen := map[*api.Sexp]bool{}
	for _, y := range lists {
		at := &y.L[0]
		if seen[at] {
			t.Errorf("%s: two lists are one", some(what))
		}
		seen[at] = true
		// What is written into one list stands in that one alone.
		kept := *at
		*at = api.Sexp{Tok: api.Token{Kind: api.TokSymbol, Text: "!unlike!"}}
		if n := count(x, "!unlike!"); n > 1 {
			t.Errorf("%s: written once, it stands %d times", some(what), n)
		}
		*at = kept
	}
}

// count is how often an atom of that text stands in x.
func count(x api.Sexp, text string) int {
	n := 0
	if !x.List && x.Tok.Text == text {
		n = 1
	}
	for _, y := range x.L {
		n += count(y, text)
	}
	return n
}

func TestR3NoListsShare(t *testing.T) {
	for _, script := range append(ownScripts(), "(+ (* 2 x) (* 2 x) (ite (= (* 2 x) (- 1)) (- 1) (- 1)))") {
		var b term.Bank
		x, _ := show.Term(&b, made(t, &b, script))
		wantOwnRoom(t, script, x)
	}
	for _, v := range ownValues() {
		x, e := show.Value(v)
		if e != api.OK {
			t.Errorf("error %d", e)
		}
		wantOwnRoom(t, spelt(x), x)
	}
}

// ownValues is values whose lists have room behind them, in which something stands.
func ownValues() []api.Value {
	l := []api.Value{
		truthOf(true), numberOf("0"), numberOf("340282366920938463463374607431768211455"), numberOf("-5"), textOf(nil), textOf(chars("aabcb")), textOf(zigzag(3000, 1)), textOf(lengths(1001, 1001, 1001)), textOf(lengths(5, 1024, 1000, 1, 1025, 7)), textOf(lengths(most)),
		{Sort: api.SortInt, I: api.Whole{N: []uint32{5, 0, 0}, Neg: true}},
	}
	for i := range l {
		v := &l[i]
		v.I.N = append(slices.Clone(v.I.N), 99, 99)[:len(v.I.N)]
		v.S = append(slices.Clone(v.S), run(99, 9), run(100, 9))[:len(v.S)]
	}
	return l
}

// room is all that values have, and have room for.
func room(l []api.Value) []api.Value {
	all := slices.Clone(l)
	for i := range all {
		v := &all[i]
		v.I.N, v.S = slices.Clone(v.I.N[:cap(v.I.N)]), slices.Clone(v.S[:cap(v.S)])
	}
	return all
}

func TestR3Values(t *testing.T) {
	for i := range ownValues() {
		l, was := ownValues(), room(ownValues())
		v := l[i]
		x, e := show.Value(v)
		again, f := show.Value(v)
		if e != api.OK || f != api.OK {
			t.Errorf("%d: errors %d and %d", i, e, f)
		}
		text := spelt(x)
		spoil(again)
		if !reflect.DeepEqual(room(l), was) {
			t.Errorf("%s: the value was changed", some(text))
		}
		for i := range v.I.N {
			v.I.N[i] = 12345
		}
		for i := range v.S {
			v.S[i] = run(120, 12345)
		}
		if spelt(x) != text {
			t.Errorf("%s was changed with the value", some(text))
		}
		x, e = show.Value(ownValues()[i])
		if e != api.OK || spelt(x) != text {
			t.Errorf("%s, told once more, is %s with error %d", some(text), some(spelt(x)), e)
		}
	}
}
