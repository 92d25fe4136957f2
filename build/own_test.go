package build_test

import (
	"reflect"
	"slices"
	"strings"
	"testing"

	"gudgeon/api"
	"gudgeon/build"
	"gudgeon/term"
)

// spare is x with room behind each of its lists, in which something stands.
func spare(x api.Sexp) api.Sexp {
	if x.List {
		l := make([]api.Sexp, 0, len(x.L)+3)
		for _, y := range x.L {
			l = append(l, spare(y))
		}
		x.L = append(l, sym("behind"), sym("behind"), sym("behind"))[:len(l)]
	}
	return x
}

// spareDecls is the same declarations, with such room behind their own list, their parameters, and within their bodies.
func spareDecls(l []api.Decl) []api.Decl {
	all := make([]api.Decl, 0, len(l)+3)
	for _, d := range l {
		behind := api.Param{Name: "behind", Sort: 99}
		d.Params = append(slices.Clone(d.Params), behind, behind, behind)[:len(d.Params)]
		d.Body = spare(d.Body)
		all = append(all, d)
	}
	behind := api.Decl{Name: "behind", Sort: 99}
	return append(all, behind, behind, behind)[:len(l)]
}

// whole is all that x has, and has room for.
func whole(x api.Sexp) []api.Sexp {
	all := []api.Sexp{x}
	for _, y := range x.L[:cap(x.L)] {
		all = append(all, whole(y)...)
	}
	return all
}

// wholeDecls is all that declarations have, and have room for.
func wholeDecls(l []api.Decl) (bodies []api.Sexp, params []api.Param, all []api.Decl) {
	for _, d := range l[:cap(l)] {
		bodies = append(bodies, whole(d.Body)...)
		params = append(params, d.Params[:cap(d.Params)]...)
		all = append(all, d)
	}
	return bodies, params, all
}

// ownTexts is s-expressions of each kind, right ones and wrong ones.
func ownTexts() []string {
	return []string{
		"x", "1", `"a\u{62}"`, "one", "yes", "true", "nope", "inc", "and", "()", "(inc x)", "(inc (inc one))", "(both yes (not p))", "(+ x 1 nope)", "(inc 1 2)", "(inc p)", "(+ 1)", "(dup (dup s))",
		"(let ((x 1) (z (inc y))) (let ((x z) (z x)) (- x z)))", "(let ((z 1) (z 2)) z)", "(let ((z 1) w) z)", "(let ((and 1)) z)", "(let () (let ((a 1)) (+ a x)))", "(pick (both p q) (inc 1) (pick q x y))", "((x) y)", "(x y)", "(let ((z nope)) z)",
	}
}

func TestR3WhatIsHandedIn(t *testing.T) {
	for _, text := range ownTexts() {
		l, x := spareDecls(stock(t)), spare(read(t, text))
		keptL, keptX := spareDecls(stock(t)), spare(read(t, text))
		d := api.Decl{Name: "f", Sort: api.SortInt, Macro: true, Params: []api.Param{{Name: "a", Sort: api.SortInt}, {Name: "b", Sort: api.SortBool}}, Body: x}
		for range 2 {
			build.Term(&term.Bank{}, l, x)
			build.Term(nil, l, x)
			build.Check(l, d)
			build.Sort(x)
		}
		if !reflect.DeepEqual(whole(x), whole(keptX)) {
			t.Errorf("%s was changed", text)
		}
		bodies, params, all := wholeDecls(l)
		keptBodies, keptParams, kept := wholeDecls(keptL)
		if !reflect.DeepEqual(bodies, keptBodies) || !reflect.DeepEqual(params, keptParams) || !reflect.DeepEqual(all, kept) {
			t.Errorf("%s: the declarations were changed", text)
		}
	}
}

// overwrite changes all that x has.
func overwrite(x api.Sexp) {
	for i := range x.L {
		overwrite(x.L[i])
		x.L[i] = sym("gone")
	}
}

// A term stays as it is, whatever becomes of what was handed in.
func TestR3TermsStay(t *testing.T) {
	b := &term.Bank{}
	for _, text := range ownTexts() {
		l, x := stock(t), read(t, text)
		id, e := build.Term(b, l, x)
		was := nodes(b)
		overwrite(x)
		for i := range l {
			overwrite(l[i].Body)
			clear(l[i].Params)
		}
		clear(l)
		if !reflect.DeepEqual(nodes(b), was) {
			t.Errorf("%s: other terms than ahead", text)
		}
		again, wrong := build.Term(b, stock(t), read(t, text))
		if again != id || wrong != e || b.Len() != len(was) {
			t.Errorf("%s: %d with error %d, then %d with %d", text, id, e, again, wrong)
		}
	}
}

// The same call answers the same: nothing is kept of what was asked ahead.
func TestR5TheSameAnswers(t *testing.T) {
	l := stock(t)
	wants := func() []string {
		var all []string
		for _, text := range ownTexts() {
			b := &term.Bank{}
			id, e := build.Term(b, l, read(t, text))
			all = append(all, told(b, id), strings.Join(toldAll(b), ","), string(rune('0'+e)))
		}
		return all
	}
	first := wants()
	other := decls(t, "(x Bool)", "(inc ((a Bool)) Bool (not a))", "(one () String \"\")", "(and Int)", "(nope Int)")
	for range 20 {
		for _, text := range ownTexts() {
			build.Term(&term.Bank{}, other, read(t, text))
			build.Check(other, api.Decl{Name: "inc", Sort: 1, Macro: true, Body: read(t, text)})
		}
		if again := wants(); !slices.Equal(again, first) {
			t.Fatalf("%q, not %q", again, first)
		}
	}
}

// What is said in one bank says nothing in another one.
func TestR5OtherBanks(t *testing.T) {
	l := stock(t)
	b, other := &term.Bank{}, &term.Bank{}
	first, _ := build.Term(b, l, read(t, "(inc x)"))
	second, _ := build.Term(other, l, read(t, "(+ y (inc x))"))
	again, _ := build.Term(b, l, read(t, "(inc x)"))
	if first != 2 || again != 2 || second != 4 || b.Len() != 3 || other.Len() != 5 {
		t.Errorf("%d, %d, %d", first, second, again)
	}
}
