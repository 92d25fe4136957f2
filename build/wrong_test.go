package build_test

import (
	"math"
	"reflect"
	"slices"
	"strconv"
	"strings"
	"testing"

	"gudgeon/api"
	"gudgeon/build"
	"gudgeon/term"
)

// fullBank is a bank that has room for so many terms more.
func fullBank(t *testing.T, room int) *term.Bank {
	t.Helper()
	b := &term.Bank{}
	for i := range 20000 - room {
		if id, e := b.Const("fill "+strconv.Itoa(i), api.SortInt); id != i || e != api.OK {
			t.Fatalf("%d with error %d", id, e)
		}
	}
	return b
}

// lastNodes is what stands at a bank's end.
func lastNodes(b *term.Bank, n int) []api.Node {
	var l []api.Node
	for id := max(b.Len()-n, 0); id < b.Len(); id++ {
		x, _ := b.At(id)
		l = append(l, x)
	}
	return l
}

// wantPlainAtEnd is wantPlain for banks of many terms: it looks at their ends alone.
func wantPlainAtEnd(t *testing.T, b, other *term.Bank, l []api.Decl, x api.Sexp) api.Errno {
	t.Helper()
	e := wantPlainAnswer(t, b, other, l, x)
	if b.Len() != other.Len() || !reflect.DeepEqual(lastNodes(b, 12), lastNodes(other, 12)) {
		t.Errorf("%s: the bank has %d terms, not %d, or others", shown(x), b.Len(), other.Len())
	}
	return e
}

// wantBank complains if the term of a text, in a bank, is another one, or if the bank has another length then.
func wantBank(t *testing.T, b *term.Bank, l []api.Decl, text string, want int, wrong api.Errno, length int) {
	t.Helper()
	if id, e := build.Term(b, l, read(t, text)); id != want || e != wrong || b.Len() != length {
		t.Errorf("%s: %d with error %d, of %d terms; not %d with %d, of %d", text, id, e, b.Len(), want, wrong, length)
	}
}

func TestP102NilBank(t *testing.T) {
	for text, want := range map[string]api.Errno{
		"x": api.ErrArg, "1": api.ErrArg, `"a"`: api.ErrArg, `""`: api.ErrArg, "true": api.ErrArg, "false": api.ErrArg, "one": api.ErrArg, "(one)": api.ErrArg, "inc": api.ErrArg, "(inc 1)": api.ErrArg, "()": api.ErrArg, "(+)": api.ErrArg, "(+ 1 nope)": api.ErrArg,
		"(let ((a 1)) nope)": api.ErrArg, "(let () x)": api.ErrArg, "(let x)": api.ErrArg, "(inc)": api.ErrArg, "(one 1)": api.ErrArg,
		"nope": api.ErrName, "(+ nope 1)": api.ErrName, "(x 1)": api.ErrName, "(let ((a nope)) 1)": api.ErrName, "(let () nope)": api.ErrName,
		"and": api.ErrOp, "1.5": api.ErrOp, "(1)": api.ErrOp, "(div 1 2)": api.ErrOp, "(let ((and 1)) 1)": api.ErrOp, "(let ((a 1) (a 1)) 1)": api.ErrThere, "(+ 1.5 nope)": api.ErrOp,
	} {
		id, e := build.Term(nil, stock(t), read(t, text))
		if id != 0 || e != want {
			t.Errorf("%s: %d with error %d, not %d", text, id, e, want)
		}
	}
	for _, l := range [][]api.Decl{nil, {}, make([]api.Decl, 3)} {
		for _, x := range []api.Sexp{{}, {List: true}, num("007"), sym("x"), str("a")} {
			if id, e := build.Term(nil, l, x); id != 0 || e == api.OK {
				t.Errorf("%s: %d with error %d", shown(x), id, e)
			}
		}
	}
}

// A full bank tells what is there; of other terms it tells that there is no room, where it comes to them.
func TestP102FullBank(t *testing.T) {
	l := append(stock(t), decls(t, "(many ((a Int)) Int (+ a (+ a (+ a 1))))")...)
	b := fullBank(t, 4)
	wantBank(t, b, l, "(inc x)", 19998, api.OK, 19999)
	wantBank(t, b, l, "(+ x (+ x 2))", 0, api.ErrLong, 20000)
	last, _ := b.At(19999)
	if last.Op != api.OpNum {
		t.Errorf("%v", last)
	}
	for range 2 {
		wantBank(t, b, l, "x", 19996, api.OK, 20000)
		wantBank(t, b, l, "one", 19997, api.OK, 20000)
		wantBank(t, b, l, "(let ((z x)) (inc z))", 19998, api.OK, 20000)
		wantBank(t, b, l, "2", 19999, api.OK, 20000)
		for text, want := range map[string]api.Errno{
			"y": api.ErrLong, "3": api.ErrLong, "true": api.ErrLong, `"a"`: api.ErrLong, "(- x)": api.ErrLong, "(+ 1 x)": api.ErrLong, "yes": api.ErrLong, "(many x)": api.ErrLong, "(inc 2)": api.ErrLong, "(let ((z 3)) x)": api.ErrLong, "(+ y nope)": api.ErrLong, "(many p)": api.ErrLong,
			"nope": api.ErrName, "(+ x nope y)": api.ErrName, "(nope 3)": api.ErrName, "()": api.ErrArg, "(+ x)": api.ErrArg, "(- )": api.ErrArg, "(inc 1 2)": api.ErrArg, "(not x)": api.ErrSort, "(both x 1)": api.ErrSort, "(* x x)": api.ErrOp, "(div x 3)": api.ErrOp, "1.5": api.ErrOp,
			"(let ((z y) (z 3)) 3)": api.ErrThere, "(let ((z y)) 3)": api.ErrLong,
		} {
			wantBank(t, b, l, text, 0, want, 20000)
		}
	}
}

// odd is s-expressions whose fields are none of the chapter's.
func odd() []api.Sexp {
	l := []api.Sexp{{}, {List: true}, {List: true, L: []api.Sexp{}}, {List: true, L: make([]api.Sexp, 5)}, {L: make([]api.Sexp, 5)}, {List: true, L: []api.Sexp{{List: true, L: make([]api.Sexp, 2)}}}}
	for _, kind := range append(oddKinds(), api.TokSymbol, api.TokNumeral, api.TokString) {
		for _, text := range []string{"", "x", "let", "+", "-1", "\x00\xff", "\\u{", strings.Repeat("9", 3000), strings.Repeat("n", 20000), "|", "\""} {
			for _, at := range []int{math.MinInt, 0, math.MaxInt} {
				x := api.Sexp{Tok: api.Token{Kind: kind, Text: text, At: at}, At: -at}
				y := x
				y.L = []api.Sexp{sym("x"), x}
				z := y
				z.List = true
				l = append(l, x, y, z, list(x), list(sym("+"), num("1"), x), list(sym("f0"), x), list(sym("let"), list(list(x, num("1"))), x), list(sym("let"), x, x), list(sym("let"), list(x, x), x))
			}
		}
	}
	return l
}

// oddDecls is declarations whose fields are none of the chapter's.
func oddDecls() [][]api.Decl {
	all := [][]api.Decl{nil, {}, make([]api.Decl, 5), {{Macro: true}}, {{Name: "x", Macro: true, Body: api.Sexp{List: true}}}}
	for _, sort := range []int{math.MinInt, -1, 0, 1, 2, 3, 4, math.MaxInt} {
		for _, name := range []string{"", "x", "f0", "let", "+", "true", strings.Repeat("n", 20000)} {
			d := api.Decl{Name: name, Sort: sort, Body: sym("x")}
			m := d
			m.Macro, m.Params = true, []api.Param{{}, {Name: "x", Sort: sort}, {Name: name, Sort: sort}, {Name: name, Sort: -sort}}
			n := m
			n.Params, n.Body = n.Params[1:2], list(sym("f0"), sym("x"))
			all = append(all, []api.Decl{d}, []api.Decl{m}, []api.Decl{d, m, n, d, n})
		}
	}
	return all
}

// Each argument may be wrong, alone and together with others: none of it panics, and it is told as plain tells it.
func TestP1WrongInputs(t *testing.T) {
	good := stock(t)
	for _, x := range odd() {
		b, other := &term.Bank{}, &term.Bank{}
		wantPlain(t, b, other, good, x)
		wantPlain(t, nil, nil, good, x)
		build.Sort(x)
		for _, name := range []string{"f", "", "and"} {
			d := api.Decl{Name: name, Sort: api.SortInt, Macro: true, Params: []api.Param{{Name: "x", Sort: api.SortInt}}, Body: x}
			if e := build.Check(good, d); e != check(good, d) {
				t.Errorf("%s: error %d", shown(x), e)
			}
		}
	}
	some := slices.DeleteFunc(odd(), func(x api.Sexp) bool { return x.At != 0 })
	for _, l := range oddDecls() {
		for i, x := range some {
			if i%7 != 0 && len(l) > 1 {
				continue
			}
			wantPlain(t, &term.Bank{}, &term.Bank{}, l, x)
			wantPlain(t, nil, nil, l, x)
		}
		for i, d := range l {
			if e := build.Check(l[:i], d); e != check(l[:i], d) {
				t.Errorf("%s: error %d", short(d.Name), e)
			}
			if e := build.Check(l, d); e != check(l, d) {
				t.Errorf("%s, behind itself: error %d", short(d.Name), e)
			}
		}
	}
}
