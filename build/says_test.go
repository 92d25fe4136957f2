package build_test

import (
	"strings"
	"testing"

	"gudgeon/api"
	"gudgeon/build"
	"gudgeon/term"
)

func TestP10Example(t *testing.T) {
	l := decls(t, "(x Int)")
	b := &term.Bank{}
	x, _ := b.Const("x", api.SortInt)
	one, _ := b.Num(api.Whole{N: []uint32{1}})
	sum, _ := b.App(api.OpAdd, []int{x, one})
	two, _ := b.Num(api.Whole{N: []uint32{2}})
	want, _ := b.App(api.OpMul, []int{two, sum})
	if id, e := build.Term(b, l, read(t, "(let ((y (+ x 1))) (* 2 y))")); id != want || e != api.OK || b.Len() != 5 {
		t.Errorf("%d with error %d, not %d", id, e, want)
	}
	wantErrors(t, l, wrong{"(+ x y)", api.ErrName, in("x")}, wrong{"(str.in_re x x)", api.ErrOp, nil})
}

// A constant is told by its declaration's name and sort.
func TestP102Constants(t *testing.T) {
	for _, name := range []string{"x", "||", "|a b|", "|1|", "|x;y|", "str", "re", "Bool", "True", "-x", "+1", "|" + strings.Repeat("n", 16000) + "|"} {
		for _, sort := range []int{api.SortBool, api.SortInt, api.SortStr} {
			x := read(t, name)
			wantNode(t, []api.Decl{{Name: x.Tok.Text, Sort: sort}}, x, api.Node{Op: api.OpConst, Sort: sort, Name: x.Tok.Text})
			wantError(t, []api.Decl{{Name: x.Tok.Text + "x", Sort: sort}, {Name: "y", Sort: sort}}, x, api.ErrName)
		}
	}
	// Its parameters and body say nothing, as it is no function.
	d := decl(t, "(x ((a Int)) Int a)")
	d.Macro = false
	wantNode(t, []api.Decl{d}, sym("x"), api.Node{Op: api.OpConst, Sort: api.SortInt, Name: "x"})
	wantError(t, []api.Decl{d}, read(t, "(x 1)"), api.ErrName)
	// What Const refuses is handed on.
	wantError(t, []api.Decl{{Name: "x"}}, sym("x"), api.ErrArg)
	wantError(t, []api.Decl{{Name: "x", Sort: 4}}, sym("x"), api.ErrArg)
	long := strings.Repeat("n", 16384)
	wantNode(t, []api.Decl{{Name: long, Sort: api.SortInt}}, sym(long), api.Node{Op: api.OpConst, Sort: api.SortInt, Name: long})
	wantError(t, []api.Decl{{Name: long + "n", Sort: api.SortInt}}, sym(long+"n"), api.ErrArg)
}

func TestP102NamesInBars(t *testing.T) {
	l := stock(t)
	wantTerm(t, l, "(|+| |x| (|inc| y))", "(+ x (+ y 1))")
	wantTerm(t, l, "(|let| ((|x| 1) (|a b| 2)) (|str.at| s (|-| |x| |a b|)))", "(str.at s (- 1 2))")
	wantErrors(t, l, wrong{"|str.x|", api.ErrOp, nil}, wrong{"|+|", api.ErrOp, nil}, wrong{"(|forall| x)", api.ErrOp, nil}, wrong{"|x |", api.ErrName, nil}, wrong{"||", api.ErrName, nil}, wrong{"|1|", api.ErrName, nil})
}

func TestP102Lets(t *testing.T) {
	l := stock(t)
	for text, want := range map[string]string{
		"(let ((x 1)) x)":                                       "1",
		"(let ((x 1)) y)":                                       "y",
		"(let ((z 1)) (+ z x))":                                 "(+ 1 x)",
		"(let ((x 1)) (let ((x 2)) x))":                         "2",
		"(let ((x 1)) (+ (let ((x 2)) x) x))":                   "(+ 2 1)",
		"(let ((x 1)) (+ x (let ((x 2)) x)))":                   "(+ 1 2)",
		"(+ (let ((x 1)) x) x)":                                 "(+ 1 x)",
		"(let ((x y) (y x)) (- x y))":                           "(- y x)",
		"(let ((x 1)) (let ((x (+ x x))) x))":                   "(+ 1 1)",
		"(let ((x 1)) (let ((y (+ x x)) (x 3)) (* x y)))":       "(* 3 (+ 1 1))",
		"(let ((x p)) (let ((p x) (q (not x))) (and p q x)))":   "(and p (not p) p)",
		"(let ((inc 1)) inc)":                                   "1",
		"(let ((inc 1)) (let ((x (one))) (+ x inc)))":           "(+ 1 1)",
		"(let ((one s)) (str.len one))":                         "(str.len s)",
		"(let ((a 1)) (let ((b 2)) (let ((c 3)) (+ a b c))))":   "(+ 1 2 3)",
		"(let ((a (let ((a 1)) (+ a 2)))) (* a 3))":             "(* (+ 1 2) 3)",
		"(let ((a x) (b y)) (let ((a b) (b a)) (str.at s a)))":  "(str.at s y)",
		"(let ((x true)) (ite x (let ((x y)) x) (ite x y y)))":  "(ite true y (ite true y y))",
		"(let ((|| 1) (|a b| 2)) (- || |a b|))":                 "(- 1 2)",
		"(let ((a (+ (let ((x 1)) x) (let ((y x)) y)))) (- a))": "(- (+ 1 x))",
	} {
		wantTerm(t, l, text, want)
	}
	// A let's name is forgotten behind it.
	wantErrors(t, l, wrong{"(+ (let ((z 1)) z) z)", api.ErrName, in("1")}, wrong{"(let ((a 1) (b a)) b)", api.ErrName, in("1")},
		wrong{"(let ((a a)) a)", api.ErrName, nil}, wrong{"(let ((a 1)) (let ((b 2)) c))", api.ErrName, in("1", "2")},
		wrong{"(+ (let ((z 1)) (let ((w z)) (+ z w))) w)", api.ErrName, in("1", "(+ 1 1)")})
}

func TestP102Parameters(t *testing.T) {
	for _, c := range []struct {
		decls      []string
		text, want string
	}{
		{in("(x Int)", "(f ((x Int)) Int x)"), "(f 5)", "5"},
		{in("(x Int)", "(f ((x Int)) Int (+ x x))"), "(+ (f 5) x)", "(+ (+ 5 5) x)"},
		{in("(x Int)", "(f ((x Int)) Int (+ x x))"), "(let ((x 7)) (f (+ x 1)))", "(+ (+ 7 1) (+ 7 1))"},
		{in("(f ((x Int)) Int (let ((x (+ x 1))) x))"), "(f 5)", "(+ 5 1)"},
		{in("(f ((x Int)) Int (+ (let ((x (+ x 1))) x) x))"), "(f 5)", "(+ (+ 5 1) 5)"},
		{in("(x Int)", "(f ((x Int)) Int (let ((x 1)) (let ((x 2)) x)))"), "(f 5)", "2"},
		// Of two of one name the last one.
		{in("(f ((x Int) (x Int)) Int x)"), "(f 1 2)", "2"},
		{in("(f ((x Int) (x Bool) (y Int) (x Int)) Int (+ x y))"), "(f 1 true 3 4)", "(+ 4 3)"},
		{in("(x Int)", "(x Bool)"), "x", "x"},
		{in("(f () Int 1)", "(f () Int 2)"), "(+ f (f))", "(+ 2 2)"},
		{in("(f () Int 1)", "(g () Int f)", "(f () Int 2)"), "(+ f g)", "(+ 2 1)"},
		{in("(f ((a Int)) Int a)", "(f Int)"), "f", "f"},
		{in("(f Int)", "(f ((a Int)) Int (+ a 1))"), "(f 1)", "(+ 1 1)"},
		// A parameter that has the name of a function, or of its own one.
		{in("(g () Int 1)", "(f ((g Int)) Int g)"), "(f 5)", "5"},
		{in("(f ((f Int)) Int (+ f f))"), "(f 5)", "(+ 5 5)"},
		// A function of the same name ahead is another one.
		{in("(f ((a Int)) Int (+ a 1))", "(f ((a Int)) Int (* 2 (f a)))"), "(f 5)", "(* 2 (+ 5 1))"},
		{in("(f Int)", "(f () Int (+ f 1))"), "f", "(+ f 1)"},
		// What a body says is not what its caller has bound.
		{in("(y Int)", "(f () Int y)"), "(let ((y 3)) f)", "y"},
		{in("(y Int)", "(f () Int y)"), "(let ((y 3)) (+ (f) y))", "(+ y 3)"},
		{in("(y Int)", "(f ((a Int)) Int (+ a y))"), "(let ((y 3)) (f y))", "(+ 3 y)"},
		{in("(y Int)", "(f () Int y)", "(g ((y Int)) Int (+ (f) y))"), "(g 4)", "(+ y 4)"},
		{in("(y Int)", "(f () Int y)", "(y Bool)"), "(ite y f 1)", "(ite y y 1)"},
		{in("(y Int)", "(f ((a Int)) Int (let ((b y)) (+ a b)))", "(g ((a Int)) Int (let ((y 1) (b 2)) (f a)))"), "(g 3)", "(+ 3 y)"},
		// Behind a call the caller's names say again what they said.
		{in("(f ((a Int)) Int (let ((b 1)) (+ a b)))"), "(let ((a 5) (b 6)) (+ (f 7) a b))", "(+ (+ 7 1) 5 6)"},
		{in("(f ((a Int)) Int (let ((b 1)) (+ a b)))", "(g ((a Int) (b Int)) Int (+ (f b) a (f a) b))"), "(g 8 9)", "(+ (+ 9 1) 8 (+ 8 1) 9)"},
	} {
		wantTerm(t, decls(t, c.decls...), c.text, c.want)
	}
}

// Which of two declarations a constant is, its sort tells.
func TestP102TheLastDeclaration(t *testing.T) {
	l := decls(t, "(x Int)", "(f () Int x)", "(x Bool)", "(g () Bool x)", "(x String)", "(h () String x)")
	for text, sort := range map[string]int{"x": api.SortStr, "f": api.SortInt, "g": api.SortBool, "h": api.SortStr} {
		wantNode(t, l, sym(text), api.Node{Op: api.OpConst, Sort: sort, Name: "x"})
	}
	wantNode(t, l[:2], sym("x"), api.Node{Op: api.OpConst, Sort: api.SortInt, Name: "x"})
	wantNode(t, l[:3], sym("x"), api.Node{Op: api.OpConst, Sort: api.SortBool, Name: "x"})
	two := decls(t, "(f ((x Int) (x Bool)) Bool x)")
	wantError(t, two, read(t, "(f true 1)"), api.ErrSort, "true", "1")
	wantTerm(t, two, "(f 1 true)", "true")
}

// Within a body nothing is said by what its caller has bound, by what is declared behind it, or by itself.
func TestP102WhatABodyDoesNotSay(t *testing.T) {
	for _, c := range []struct {
		decls []string
		text  string
	}{
		{in("(f () Int y)"), "(let ((y 3)) f)"},
		{in("(f () Int y)"), "(let ((y 3)) (f))"},
		{in("(f ((a Int)) Int (+ a y))"), "(let ((y 3)) (f 3))"},
		{in("(f () Int y)", "(g ((y Int)) Int (f))"), "(g 3)"},
		{in("(f () Int y)", "(g ((a Int)) Int (let ((y a)) f))"), "(g 3)"},
		{in("(f () Int y)", "(y Int)"), "(+ 3 f)"},
		{in("(f () Int (y))", "(y () Int 3)"), "(+ 3 (f))"},
		{in("(f () Int f)"), "(+ 3 f)"},
		{in("(f () Int (f))"), "(+ 3 f)"},
		{in("(f ((a Int)) Int (f a))"), "(f 3)"},
		{in("(f ((a Int)) Int (g a))", "(g ((a Int)) Int (f a))"), "(f 3)"},
		{in("(f ((a Int)) Int a)", "(g () Int a)"), "(+ (f 3) g)"},
		{in("(f ((a Int)) Int (let ((b a)) b))", "(g () Int b)"), "(+ (f 3) g)"},
	} {
		wantError(t, decls(t, c.decls...), read(t, c.text), api.ErrName, "3")
	}
}

func TestP102NothingSaid(t *testing.T) {
	l := stock(t)
	for _, name := range []string{"nope", "X", "xx", "a", "b", "u", "||", "|x y|", "Int", "success", "assert"} {
		wantErrors(t, l, wrong{name, api.ErrName, nil}, wrong{"(" + name + ")", api.ErrName, nil}, wrong{"(" + name + " 1 2)", api.ErrName, nil}, wrong{"(+ 1 " + name + ")", api.ErrName, in("1")})
	}
	wantError(t, nil, sym("x"), api.ErrName)
	wantError(t, []api.Decl{}, list(sym("x")), api.ErrName)
}
