package build_test

import (
	"slices"
	"strconv"
	"testing"

	"gudgeon/api"
	"gudgeon/build"
	"gudgeon/term"
)

func TestP102Functions(t *testing.T) {
	l := stock(t)
	for text, want := range map[string]string{
		"one": "1", "(one)": "1", "yes": "(or p q)", "(not (yes))": "(not (or p q))", "(inc x)": "(+ x 1)", "(inc (inc x))": "(+ (+ x 1) 1)", "(inc one)": "(+ 1 1)", "(inc (one))": "(+ 1 1)",
		"(both p yes)": "(and p (or p q))", "(both (both p q) (not q))": "(and (and p q) (not q))", "(pick p 1 2)": "(ite p 1 2)", "(pick (both p q) (inc 1) (pick q x y))": "(ite (and p q) (+ 1 1) (ite q x y))",
		"(dup s)": "(str.++ s s)", "(dup (dup \"a\"))": "(str.++ (str.++ \"a\" \"a\") (str.++ \"a\" \"a\"))", "(same t)": "t", "(str.len (same (dup (same s))))": "(str.len (str.++ s s))",
		"(let ((z (inc 2))) (inc z))": "(+ (+ 2 1) 1)", "(let ((x 2)) (inc x))": "(+ 2 1)",
	} {
		wantTerm(t, l, text, want)
	}
}

// Which terms come first: the parts, in order, and then what the body has.
func TestP102OrderOfTerms(t *testing.T) {
	l := append(stock(t), decls(t, "(f ((a Int) (b Int)) Bool (< (+ b 5) (+ 6 a)))", "(g ((a Int)) Bool (f (- a) 8))")...)
	for text, want := range map[string][]string{
		"(f (+ x 1) 2)":                       in("x", "1", "(+ x 1)", "2", "5", "(+ 2 5)", "6", "(+ 6 (+ x 1))", "(< (+ 2 5) (+ 6 (+ x 1)))"),
		"(g 7)":                               in("7", "(- 7)", "8", "5", "(+ 8 5)", "6", "(+ 6 (- 7))", "(< (+ 8 5) (+ 6 (- 7)))"),
		"(let ((z (inc 3)) (w y)) (+ w 1 z))": in("3", "1", "(+ 3 1)", "y", "(+ y 1 (+ 3 1))"),
		"(+ (let ((z 5)) x) (ite p y 5))":     in("5", "x", "p", "y", "(ite p y 5)", "(+ x (ite p y 5))"),
		"(and true (= s \"a\") false)":        in("true", "s", "\"a\"", "(= s \"a\")", "false", "(and true (= s \"a\") false)"),
		"(pick yes 1 one)":                    in("p", "q", "(or p q)", "1", "(ite (or p q) 1 1)"),
	} {
		b := &term.Bank{}
		id, e := build.Term(b, l, read(t, text))
		if got := toldAll(b); e != api.OK || id != len(want)-1 || !slices.Equal(got, want) {
			t.Errorf("%s: %d with error %d, %q", text, id, e, got)
		}
	}
}

func TestP102WrongCalls(t *testing.T) {
	l := stock(t)
	wantErrors(t, l,
		// By itself it is no term, if it has parameters.
		wrong{"inc", api.ErrArg, nil}, wrong{"(+ 1 inc)", api.ErrArg, in("1")}, wrong{"(inc inc)", api.ErrArg, nil}, wrong{"(let ((z both)) 1)", api.ErrArg, nil},
		// None, too few, too many: behind all parts.
		wrong{"(inc)", api.ErrArg, nil}, wrong{"(both)", api.ErrArg, nil}, wrong{"(both p)", api.ErrArg, in("p")}, wrong{"(inc x y)", api.ErrArg, in("x", "y")}, wrong{"(both p q p)", api.ErrArg, in("p", "q")},
		wrong{"(one 1)", api.ErrArg, in("1")}, wrong{"(yes p q)", api.ErrArg, in("p", "q")}, wrong{"(one (one))", api.ErrArg, in("1")}, wrong{"(one nope)", api.ErrName, nil}, wrong{"(inc x nope)", api.ErrName, in("x")}, wrong{"(inc 1.5 nope)", api.ErrOp, nil},
		// Of another sort, behind the number of parts.
		wrong{"(inc p)", api.ErrSort, in("p")}, wrong{"(inc s)", api.ErrSort, in("s")}, wrong{"(both p x)", api.ErrSort, in("p", "x")}, wrong{"(both x p)", api.ErrSort, in("x", "p")}, wrong{"(pick p x s)", api.ErrSort, in("p", "x", "s")},
		wrong{"(both x)", api.ErrArg, in("x")}, wrong{"(inc p 1)", api.ErrArg, in("p", "1")}, wrong{"(same 1)", api.ErrSort, in("1")}, wrong{"(pick x x nope)", api.ErrName, in("x")})
}

// What is wrong within a body is told where it is called, behind the parts.
func TestP102WrongBodies(t *testing.T) {
	l := append(stock(t), decls(t, "(name ((a Int)) Int (+ a (+ 2 nope)))", "(sort ((a Int)) Int (+ a p))", "(arg ((a Int)) Int (inc a 2))", "(op () Int (div 1 2))", "(empty ((a Int)) Int ())", "(there () Int (let ((b 1) (b 2)) 3))",
		"(calls ((a Int)) Int (+ (name a) (sort a)))", "(unasked ((a Int)) Int (let ((b (sort a))) a))", "(otherOwn ((a Int)) Bool (+ a 1))")...)
	wantErrors(t, l,
		wrong{"(name 1)", api.ErrName, in("1", "2")}, wrong{"(sort 1)", api.ErrSort, in("1", "p")}, wrong{"(arg 1)", api.ErrArg, in("1", "2")}, wrong{"op", api.ErrOp, nil}, wrong{"(op)", api.ErrOp, nil}, wrong{"(empty 1)", api.ErrArg, in("1")},
		wrong{"there", api.ErrThere, nil}, wrong{"(calls 1)", api.ErrName, in("1", "2")}, wrong{"(unasked 1)", api.ErrSort, in("1", "p")}, wrong{"(name nope)", api.ErrName, nil}, wrong{"(name p)", api.ErrSort, in("p")},
		wrong{"(+ (sort 1) (name 2))", api.ErrSort, in("1", "p")}, wrong{"(+ (name 2) (sort 1))", api.ErrName, in("2")}, wrong{"(let ((z (op))) nope)", api.ErrOp, nil})
	// Of what sort a body is is nobody's affair but Check's.
	wantTerm(t, l, "(otherOwn 3)", "(+ 3 1)")
	wantTerm(t, l, "(inc (otherOwn 3))", "(+ (+ 3 1) 1)")
	for _, sort := range []int{-1, 0, 4, 1 << 62} {
		f := api.Decl{Name: "f", Sort: sort, Macro: true, Params: []api.Param{{Name: "a", Sort: api.SortInt}}, Body: sym("a")}
		wantSexp(t, []api.Decl{f}, read(t, "(f 3)"), "3")
		f.Params[0].Sort = sort
		wantError(t, []api.Decl{f}, read(t, "(f 3)"), api.ErrSort, "3")
	}
}

// doubling is functions, each of which adds what the one ahead makes to that.
func doubling(t *testing.T, n int) []api.Decl {
	t.Helper()
	l := decls(t, "(f0 ((a Int)) Int a)")
	for i := range n {
		ahead := "(f" + strconv.Itoa(i) + " a)"
		l = append(l, decl(t, "(f"+strconv.Itoa(i+1)+" ((a Int)) Int (+ "+ahead+" "+ahead+"))"))
	}
	return l
}

// wantBankOfSums complains if the bank has not just 1, and each sum of twice the one ahead, the last of which is x.
func wantBankOfSums(t *testing.T, l []api.Decl, x api.Sexp, sums int) {
	t.Helper()
	b := &term.Bank{}
	id, e := build.Term(b, l, x)
	if id != sums || e != api.OK || b.Len() != sums+1 {
		t.Fatalf("%d with error %d, of %d terms", id, e, b.Len())
	}
	for i := range sums {
		if n, _ := b.At(i + 1); n.Op != api.OpAdd || !slices.Equal(n.A, []int{i, i}) {
			t.Errorf("%d: %v", i+1, n)
		}
	}
}

// The same function with the same parts is made once, or this would not end.
func TestP102DoublingFunctions(t *testing.T) {
	l := doubling(t, 300)
	wantBankOfSums(t, l, read(t, "(f300 1)"), 300)
	if e := build.Check(l, decl(t, "(g ((a Int)) Int (+ (f300 a) (f299 a)))")); e != api.OK {
		t.Errorf("error %d", e)
	}
	// So it is without parameters, as an atom and as a list.
	for _, call := range []string{"c", "(c)"} {
		l := decls(t, "(c () Int 1)")
		for range 300 {
			l = append(l, decl(t, "(c () Int (+ "+call+" "+call+"))"))
		}
		wantBankOfSums(t, l, read(t, call), 300)
	}
}

// With other parts, a function is another term; numbers of parts that read alike in a row are told apart.
func TestP102SameFunctionOtherParts(t *testing.T) {
	l := decls(t, "(f ((a Int) (b Int)) Int (- a b))", "(g ((a Int)) Int (- a))", "(h ((a Int) (b Int)) Int (- b a))")
	wantTerm(t, l, "(+ (f 1 2) (f 2 1) (f 1 2) (f 1 1) (h 1 2) (g 1) (g 2) (h 2 1))", "(+ (- 1 2) (- 2 1) (- 1 2) (- 1 1) (- 2 1) (- 1) (- 2) (- 1 2))")
	x := list(sym("="))
	want := "(="
	for i := range 13 {
		for j := range 13 {
			a, b := strconv.Itoa(i), strconv.Itoa(j)
			x.L = append(x.L, list(sym("f"), num(a), num(b)))
			want += " (- " + a + " " + b + ")"
		}
	}
	wantSexp(t, l, x, want+")")
}

// Functions far deeper in one another than calls of Go may be.
func TestP102DeepFunctions(t *testing.T) {
	for _, call := range []string{"c", "(c)", "(let ((z c)) z)", "(let () (let () (let () (let () (let () (let () (let () (let () (let () c)))))))))"} {
		l := decls(t, "(c () Int 5)")
		next := decl(t, "(c () Int "+call+")")
		l = append(l, slices.Repeat([]api.Decl{next}, 100000)...)
		wantSexp(t, l, sym("c"), "5")
	}
	l := decls(t, "(f ((a Int)) Int (+ a 1))")
	l = append(l, slices.Repeat(decls(t, "(f ((a Int)) Int (f a))"), 100000)...)
	wantTerm(t, l, "(f 5)", "(+ 5 1)")
	b := &term.Bank{}
	l = append(decls(t, "(g ((p Bool)) Bool p)"), slices.Repeat(decls(t, "(g ((p Bool)) Bool (not (g p)))"), 19999)...)
	if id, e := build.Term(b, l, read(t, "(g true)")); id != 19999 || e != api.OK || b.Len() != 20000 {
		t.Errorf("%d with error %d, of %d terms", id, e, b.Len())
	}
}

// As many lists in one another as the document speaks of; what is in itself is told, too.
func TestP1DeepLists(t *testing.T) {
	x, y := sym("x"), num("1")
	for range 1<<16 - 1 {
		x = list(sym("let"), list(), x)
		y = list(sym("+"), y)
	}
	wantSexp(t, decls(t, "(x Int)"), x, "x")
	wantError(t, nil, y, api.ErrArg, "1")
	for _, l := range [][]api.Sexp{
		{sym("not"), {List: true}}, {sym("let"), list(), {List: true}}, {sym("let"), list(list(sym("a"), num("1"))), {List: true}}, {sym("f"), {List: true}}, {sym("+"), num("1"), {List: true}},
	} {
		l[len(l)-1].L = l
		f := decl(t, "(f ((a Int)) Int a)")
		if _, e := build.Term(&term.Bank{}, []api.Decl{f}, list(l...)); e != api.ErrLong {
			t.Errorf("error %d", e)
		}
		f.Body = list(l...)
		if e := build.Check(nil, f); e == api.OK {
			t.Errorf("no error")
		}
	}
}
