package eval_test

import (
	"reflect"
	"slices"
	"testing"

	"gudgeon/api"
	"gudgeon/eval"
	"gudgeon/term"
)

// ownScripts is terms of each operation; some answer what a constant is, or what stands in the bank.
func ownScripts() []string {
	return []string{
		"p", "x", "y", "s", "t", "7", "340282366920938463463374607431768211456", `"abba"`, `""`, "true", "(not p)", "(= s t)", "(distinct x y 3)", "(ite p x y)", "(ite p s t)", `(ite q s "abba")`, "(ite q x 340282366920938463463374607431768211456)",
		"(- x)", "(- y)", "(+ x 0)", "(+ x y)", "(- x 0)", "(* 1 x)", "(* 2 y)", "(str.++ s \"\")", `(str.++ "" s)`, "(str.++ s t)", "(str.++ t t t)", "(str.len s)", "(str.at s 1)", "(str.substr s 0 99)", "(str.substr s 1 2)", "(str.indexof s t 0)", "(str.replace s t u)", `(str.replace s "zz" t)`, `(str.replace s "" "")`, "(str.replace s s t)", "(<= x y 3)", "(str.contains s t)",
		"(let ((w (str.++ s t))) (ite (= w s) s (str.replace w w (ite p s t))))",
	}
}

// ownBinds is an assignment whose lists have room behind them, in which something stands.
func ownBinds() []bind {
	l := make([]bind, 0, 8)
	l = append(l, boolean("p", true), integer("x", "340282366920938463463374607431768211455"), integer("y", "-5"), letters("s", "aabcb"), letters("t", "bc"), letters("u", "x"))
	for i := range l {
		v := &l[i].V
		v.I.N = append(v.I.N, 99, 99)[:len(v.I.N)]
		v.S = append(v.S, run(99, 9), run(100, 9))[:len(v.S)]
	}
	return append(l, integer("x", "99"), letters("s", "behind"))[:len(l)]
}

// room is all that an assignment has, and has room for.
func room(l []bind) []bind {
	all := slices.Clone(l[:cap(l)])
	for i := range all {
		v := &all[i].V
		v.I.N, v.S = v.I.N[:cap(v.I.N)], v.S[:cap(v.S)]
	}
	return all
}

// nodes is all terms of a bank as they are.
func nodes(b *term.Bank) []api.Node {
	var l []api.Node
	for id := range b.Len() {
		n, _ := b.At(id)
		l = append(l, n)
	}
	return l
}

// spoil writes over all lists of a value, as far as they have room.
func spoil(v *api.Value) {
	for i := range v.I.N[:cap(v.I.N)] {
		v.I.N[:cap(v.I.N)][i] = 12345
	}
	for i := range v.S[:cap(v.S)] {
		v.S[:cap(v.S)][i] = run(120, 12345)
	}
}

func TestR3WhatIsHandedIn(t *testing.T) {
	for _, script := range ownScripts() {
		var b term.Bank
		id := made(t, &b, script)
		l, kept, was := ownBinds(), room(ownBinds()), nodes(&b)
		v, e := eval.Eval(&b, id, l)
		if e != api.OK {
			t.Errorf("%s: error %d", script, e)
		}
		want := told(v)
		ids := append(make([]int, 0, 5), id, id, 0)
		eval.Holds(&b, ids, l)
		spoil(&v)
		if !reflect.DeepEqual(room(l), kept) {
			t.Errorf("%s: the assignment was changed", script)
		}
		if !reflect.DeepEqual(nodes(&b), was) {
			t.Errorf("%s: the bank was changed", script)
		}
		if !slices.Equal(ids[:cap(ids)], []int{id, id, 0, 0, 0}) {
			t.Errorf("%s: the ids were changed: %v", script, ids[:cap(ids)])
		}
		if v, _ := eval.Eval(&b, id, l); told(v) != want {
			t.Errorf("%s: %s, not %s", script, told(v), want)
		}
	}
}

// What is answered stays as it is, whatever becomes of what was handed in.
func TestR3WhatIsAnswered(t *testing.T) {
	for _, script := range ownScripts() {
		var b term.Bank
		id := made(t, &b, script)
		l := ownBinds()
		v, _ := eval.Eval(&b, id, l)
		w, _ := eval.Eval(&b, id, l)
		want := told(v)
		spoil(&w)
		for i := range l {
			spoil(&l[i].V)
			l[i].Name = "spoilt"
		}
		made(t, &b, "(str.++ s s s)")
		if told(v) != want {
			t.Errorf("%s: %s, not %s", script, told(v), want)
		}
	}
}
