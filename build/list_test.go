package build_test

import (
	"slices"
	"strings"
	"testing"

	"gudgeon/api"
	"gudgeon/build"
	"gudgeon/term"
)

func TestP102NoHead(t *testing.T) {
	l := stock(t)
	wantErrors(t, l,
		wrong{"()", api.ErrArg, nil}, wrong{"(())", api.ErrOp, nil}, wrong{"((+) 1 2)", api.ErrOp, nil}, wrong{"((inc) 1)", api.ErrOp, nil}, wrong{"((nope))", api.ErrOp, nil},
		wrong{`("a" 1)`, api.ErrOp, nil}, wrong{`("inc" nope)`, api.ErrOp, nil}, wrong{"(1)", api.ErrOp, nil}, wrong{"(1 nope)", api.ErrOp, nil},
		wrong{"(:inc 1)", api.ErrOp, nil}, wrong{"(#b1 1)", api.ErrOp, nil}, wrong{"(1.5 1)", api.ErrOp, nil}, wrong{"((let ((a 1)) inc) 2)", api.ErrOp, nil},
		wrong{"(+ x ())", api.ErrArg, in("x")}, wrong{"(+ x (()))", api.ErrOp, in("x")}, wrong{"(inc ())", api.ErrArg, nil}, wrong{"(let ((a ())) 1)", api.ErrArg, nil}, wrong{"(let ((a 1)) ())", api.ErrArg, in("1")})
	for _, kind := range append(oddKinds(), api.TokNumeral, api.TokString) {
		for _, text := range []string{"+", "inc", "let", "x", "true", ""} {
			wantError(t, l, list(atom(kind, text), num("1")), api.ErrOp)
			wantError(t, l, list(atom(kind, text)), api.ErrOp)
		}
	}
	wantError(t, l, api.Sexp{List: true}, api.ErrArg)
	wantError(t, l, api.Sexp{List: true, L: []api.Sexp{}}, api.ErrArg)
	wantError(t, l, list(api.Sexp{}), api.ErrOp)
}

// Some levels of each operation.
func TestP102Operations(t *testing.T) {
	l := stock(t)
	for _, text := range []string{
		"(not p)", "(and p q)", "(or p q p)", "(=> p q)", "(xor p q p q)", "(= x y)", "(= s t s)", "(= p q)", "(distinct x y 3)", "(ite p x y)", "(ite p s t)", "(ite p q p)",
		"(- x)", "(+ x y)", "(- x y)", "(- x y 1)", "(* 2 x)", "(* 2 3)", "(* (- 2) x)", "(* 2 x (- 3))", "(<= x y)", "(< x y x)", "(>= x y)", "(> x 5)",
		"(str.++ s t)", "(str.++ s t s)", "(str.len s)", "(str.at s x)", "(str.substr s x y)", "(str.prefixof s t)", "(str.suffixof s t)", "(str.contains s t)", "(str.indexof s t x)", "(str.replace s t s)",
		"(and (not (= s (str.++ t \"a\"))) (<= 1 (str.len s) (+ x 2)))",
		"(= (str.at (str.replace s t (str.substr s 0 (- x 1))) (str.indexof s \"b\" 0)) (ite (< x y) s \"\"))",
		"(=> (or (str.prefixof s t) (str.suffixof t s)) (xor p (distinct (* 2 (- x)) (- (str.len t)) 0)))",
		"(not (not (not (not (= (- (- (- x))) (+ (+ (+ x 1) 1) 1))))))",
	} {
		wantTerm(t, l, text, text)
	}
}

// Each operation, with all sorts of up to three parts, and more of them, is what App makes of these.
func TestP102AppOfTheParts(t *testing.T) {
	l := stock(t)
	parts := []string{"p", "x", "s", "2"}
	for op, name := range opNames() {
		for n := range 5 {
			many := 1
			for range n {
				many *= len(parts)
			}
			for c := range many {
				x := list(sym(name))
				for ; len(x.L) <= n; c /= len(parts) {
					part := parts[c%len(parts)]
					x.L = append(x.L, read(t, part))
				}
				if name != "-" || (op == api.OpNeg) == (n == 1) {
					wantApp(t, l, op, x)
				}
			}
		}
	}
}

// wantApp complains if a list of an operation and atoms is otherwise than App tells.
func wantApp(t *testing.T, l []api.Decl, op int, x api.Sexp) {
	t.Helper()
	b, other := &term.Bank{}, &term.Bank{}
	var a []int
	for _, part := range x.L[1:] {
		id, _ := build.Term(other, l, part)
		a = append(a, id)
	}
	want, wrong := other.App(op, a)
	if got, e := build.Term(b, l, x); got != want || e != wrong || !slices.Equal(toldAll(b), toldAll(other)) {
		t.Errorf("%s: %d with error %d, not %d with %d; the bank has %q", shown(x), got, e, want, wrong, toldAll(b))
	}
}

func TestP102WrongParts(t *testing.T) {
	l := stock(t)
	wantErrors(t, l,
		wrong{"(+)", api.ErrArg, nil}, wrong{"(-)", api.ErrArg, nil}, wrong{"(not)", api.ErrArg, nil}, wrong{"(str.len)", api.ErrArg, nil}, wrong{"(=)", api.ErrArg, nil},
		wrong{"(+ x)", api.ErrArg, in("x")}, wrong{"(not p q)", api.ErrArg, in("p", "q")}, wrong{"(ite p x)", api.ErrArg, in("p", "x")}, wrong{"(ite p x y 1)", api.ErrArg, in("p", "x", "y", "1")},
		wrong{"(str.at s)", api.ErrArg, in("s")}, wrong{"(str.replace s t)", api.ErrArg, in("s", "t")}, wrong{"(= x)", api.ErrArg, in("x")},
		wrong{"(- p)", api.ErrSort, in("p")}, wrong{"(- s)", api.ErrSort, in("s")}, wrong{"(- x p)", api.ErrSort, in("x", "p")}, wrong{"(+ x s)", api.ErrSort, in("x", "s")},
		wrong{"(= x s)", api.ErrSort, in("x", "s")}, wrong{"(ite x x y)", api.ErrSort, in("x", "y")}, wrong{"(ite p x s)", api.ErrSort, in("p", "x", "s")}, wrong{"(str.at x s)", api.ErrSort, in("x", "s")},
		wrong{"(* x y)", api.ErrOp, in("x", "y")}, wrong{"(* 2 x x)", api.ErrOp, in("2", "x")}, wrong{"(* (+ 1 2) (- (- 3)))", api.ErrOp, in("1", "2", "(+ 1 2)", "3", "(- 3)", "(- (- 3))")})
}

// As many parts as there may be, and one more: all of them are made then.
func TestP102ManyParts(t *testing.T) {
	l := stock(t)
	for _, name := range []string{"+", "-", "<="} {
		x := list(sym(name))
		for len(x.L) < 201 {
			x.L = append(x.L, read(t, "x"), read(t, "1"))
		}
		x.L = x.L[:201]
		want := "(" + name + strings.Repeat(" x 1", 100) + ")"
		wantSexp(t, l, x, want)
		x.L = append(x.L, read(t, "2"))
		wantError(t, l, x, api.ErrArg, "x", "1", "2")
		x.L = append(x.L, read(t, "nope"), read(t, "3"))
		wantError(t, l, x, api.ErrName, "x", "1", "2")
	}
}

// A part's error comes ahead of what is wrong with the whole, and the first part's ahead of all others.
func TestP102FirstErrors(t *testing.T) {
	l := stock(t)
	wantErrors(t, l,
		wrong{"(not nope q p)", api.ErrName, nil}, wrong{"(not p nope)", api.ErrName, in("p")}, wrong{"(+ p nope)", api.ErrName, in("p")}, wrong{"(+ nope p)", api.ErrName, nil},
		wrong{"(+ x 1.5 nope)", api.ErrOp, in("x")}, wrong{"(+ x nope 1.5)", api.ErrName, in("x")}, wrong{"(+ () nope)", api.ErrArg, nil}, wrong{"(+ nope ())", api.ErrName, nil},
		wrong{"(+ (+ x p) nope)", api.ErrSort, in("x", "p")}, wrong{"(+ (+ x) (+ x p) nope)", api.ErrArg, in("x")}, wrong{"(+ 1 (+ 2 (+ 3 nope) 4) ())", api.ErrName, in("1", "2", "3")},
		wrong{"(+ (* x y) nope)", api.ErrOp, in("x", "y")}, wrong{"(+ (+ 1 2) (- p))", api.ErrSort, in("1", "2", "(+ 1 2)", "p")}, wrong{"(+ inc nope)", api.ErrArg, nil},
		wrong{"(+ (inc 1 2) nope)", api.ErrArg, in("1", "2")}, wrong{"(+ (inc p) ())", api.ErrSort, in("p")}, wrong{"(+ (let ((a 1) (a nope)) 2) nope)", api.ErrThere, nil},
		wrong{"(and (div 1 2) nope)", api.ErrOp, nil}, wrong{"(and nope (div 1 2))", api.ErrName, nil})
}

// Names that are reserved, but no operations: nothing behind them is made.
func TestP102ReservedHeads(t *testing.T) {
	l := stock(t)
	for _, name := range []string{"true", "false", "forall", "exists", "match", "par", "!", "_", "as", "div", "mod", "abs", "str.", "re.", "str.in_re", "str.to_int", "str.from_int", "str.<", "str.++x", "re.all", "re.++", "re.*", "str.is_digit"} {
		for _, parts := range []string{"", " x", " x y", " nope", " ((a Int)) p", " 1.5 ()"} {
			wantErrors(t, l, wrong{"(" + name + parts + ")", api.ErrOp, nil}, wrong{"(+ 7 (" + name + parts + "))", api.ErrOp, in("7")})
		}
		// Whatever declares it.
		for _, text := range []string{"(" + name + " Int)", "(" + name + " () Int 1)", "(" + name + " ((a Int)) Int a)"} {
			wantErrors(t, decls(t, text), wrong{"(" + name + " 1)", api.ErrOp, nil}, wrong{"(" + name + ")", api.ErrOp, nil})
		}
	}
	// What is declared by an operation's name, or by let, is not said either.
	for _, name := range allReserved() {
		d := api.Decl{Name: name, Macro: true, Params: []api.Param{{Name: "a", Sort: api.SortBool}, {Name: "b", Sort: api.SortBool}}, Body: sym("a")}
		x := list(sym(name), read(t, "true"), read(t, "false"))
		b, other := &term.Bank{}, &term.Bank{}
		id, e := build.Term(b, []api.Decl{d}, x)
		want, wrong := build.Term(other, nil, x)
		if id != want || e != wrong || !slices.Equal(toldAll(b), toldAll(other)) {
			t.Errorf("%s: %d with error %d, not %d with %d", shown(x), id, e, want, wrong)
		}
	}
}

// Names that say something, but no function, and names that say nothing: nothing behind them is made.
func TestP102HeadsThatAreNoFunctions(t *testing.T) {
	l := append(stock(t), decls(t, "(f ((a Int)) Int (a))", "(g ((a Int)) Int (a 1))", "(h ((inc Int)) Int (inc 1))", "(k () Int (let ((inc 3)) (inc 1)))", "(both Int)")...)
	for _, parts := range []string{"", " 1", " 1 2", " nope", " 1.5 ()"} {
		for _, name := range []string{"x", "s", "nope", "both"} {
			wantErrors(t, l, wrong{"(" + name + parts + ")", api.ErrName, nil})
		}
		wantErrors(t, l, wrong{"(let ((inc 5)) (inc" + parts + "))", api.ErrName, in("5")}, wrong{"(let ((z 5)) (z" + parts + "))", api.ErrName, in("5")}, wrong{"(let ((one 5)) (one" + parts + "))", api.ErrName, in("5")})
	}
	wantErrors(t, l, wrong{"(f 5)", api.ErrName, in("5")}, wrong{"(g 5)", api.ErrName, in("5")}, wrong{"(h 5)", api.ErrName, in("5")}, wrong{"k", api.ErrName, in("3")}, wrong{"(k)", api.ErrName, in("3")})
	// Where it is bound no more, it is the function again.
	wantTerm(t, l, "(+ (let ((inc 5)) inc) (inc 6))", "(+ 5 (+ 6 1))")
}
