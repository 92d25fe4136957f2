package build_test

import (
	"strconv"
	"strings"
	"testing"

	"gudgeon/api"
)

// A let that has not the form, whatever stands in it: nothing of it is made.
func TestP102LetForms(t *testing.T) {
	l := stock(t)
	for _, text := range []string{
		"(let)", "(let x)", "(let ((z 1)))", "(let ())", "(let x y nope)", "(let ((z 1)) z z)", "(let ((z nope)) nope 7)",
		"(let z 1)", "(let 1 1)", `(let "z" 1)`, "(let z nope)", "(let (z 1) z)", "(let (z) z)", "(let (z nope) nope)", "(let (1) z)",
		"(let ((z)) z)", "(let ((z)) nope)", "(let ((z 1 2)) z)", "(let ((z nope 2)) nope)", "(let (()) x)", "(let ((1 2)) x)", `(let (("z" 2)) x)`, "(let (((z) 2)) x)", "(let ((() 2)) x)",
		"(let ((:z 2)) x)", "(let ((#b1 2)) x)", "(let ((1.5 2)) x)",
		"(let ((z 1) w) z)", "(let (w (z 1)) z)", "(let ((z 1) (w)) z)", "(let ((z 1) (w 1 1)) z)", "(let ((z 1) ()) z)", "(let ((z 1) (2 2)) z)", "(let ((z nope) (2 nope)) nope)",
		// The form comes ahead of names that may not be.
		"(let ((true 1) w) z)", "(let (w (true 1)) z)", "(let ((z 1) (z 2) (w)) z)", "(let ((and 1)) x y)", "(let ((and 1)))", "(let ((z 1) (z 1)))",
	} {
		wantErrors(t, l, wrong{text, api.ErrArg, nil}, wrong{"(+ 7 " + text + " nope)", api.ErrArg, in("7")}, wrong{strings.Replace(text, "let", "|let|", 1), api.ErrArg, nil})
	}
	for _, kind := range append(oddKinds(), api.TokNumeral, api.TokString) {
		wantError(t, l, list(sym("let"), list(list(atom(kind, "z"), num("1"))), sym("x")), api.ErrArg)
	}
}

// A list of no lists is a list of lists, too.
func TestP102LetOfNothing(t *testing.T) {
	l := stock(t)
	wantTerm(t, l, "(let () x)", "x")
	wantTerm(t, l, "(let ((x 1)) (let () (+ x y)))", "(+ 1 y)")
	wantTerm(t, l, "(let () (let () (let () 5)))", "5")
	wantErrors(t, l, wrong{"(let () nope)", api.ErrName, nil}, wrong{"(let () ())", api.ErrArg, nil})
	wantSexp(t, l, list(sym("let"), api.Sexp{List: true, L: []api.Sexp{}}, sym("x")), "x")
}

// Reserved names come ahead of those that are there twice, and both ahead of all terms.
func TestP102LetNames(t *testing.T) {
	l := stock(t)
	for _, name := range append(allReserved(), "str.", "re.", "str.x", "re.y") {
		for _, text := range []string{
			"(let ((@ 1)) 2)", "(let ((@ nope)) nope)", "(let ((z nope) (@ 1)) z)", "(let ((@ 1) (z nope)) z)", "(let ((z 1) (z 2) (@ 3)) z)", "(let ((@ 1) (@ 2)) 3)", "(let ((z 1) (|@| ())) (z))", "(let ((z (z)) (w ()) (@ 1)) nope)",
		} {
			wantErrors(t, l, wrong{strings.ReplaceAll(text, "@", name), api.ErrOp, nil})
		}
	}
	for _, text := range []string{
		"(let ((z 1) (z 1)) z)", "(let ((z nope) (z 2)) z)", "(let ((z 1) (w 2) (z 3)) nope)", "(let ((z 1) (w ()) (v 2) (w 3)) z)", "(let ((z 1) (|z| 2)) z)", "(let ((|| 1) (|| 2)) 3)", "(let ((x 1) (x 2)) y)", "(let ((inc 1) (inc 2)) y)",
	} {
		wantErrors(t, l, wrong{text, api.ErrThere, nil}, wrong{"(ite p 7 " + text + ")", api.ErrThere, in("p", "7")})
	}
	// Names of operations and other reserved ones with another byte are names as any other.
	wantTerm(t, l, "(let ((ands 1) (str 2) (re 3) (Let 4) (True 5)) (+ ands str re Let True))", "(+ 1 2 3 4 5)")
}

func TestP102LetTerms(t *testing.T) {
	l := stock(t)
	wantErrors(t, l,
		wrong{"(let ((z (+ x 1)) (w nope)) 7)", api.ErrName, in("x", "1", "(+ x 1)")}, wrong{"(let ((z nope) (w ())) z)", api.ErrName, nil}, wrong{"(let ((z ()) (w nope)) z)", api.ErrArg, nil},
		wrong{"(let ((z 1) (w 1.5)) nope)", api.ErrOp, in("1")}, wrong{"(let ((z (+ x p))) nope)", api.ErrSort, in("x", "p")}, wrong{"(let ((z 1) (w z)) w)", api.ErrName, in("1")},
		wrong{"(let ((z 1)) (+ z p nope))", api.ErrName, in("1", "p")}, wrong{"(let ((z 1)) (+ z p))", api.ErrSort, in("1", "p")})
	// What is bound is in the bank, even where nothing says it; and in order, ahead of the last term.
	b, id := wantSexp(t, l, read(t, "(let ((z (str.len s)) (w (inc 4)) (v (yes))) (+ y 4))"), "(+ y 4)")
	if got := strings.Join(toldAll(b), ", "); got != "s, (str.len s), 4, 1, (+ 4 1), p, q, (or p q), y, (+ y 4)" || id != 9 {
		t.Errorf("%d: %s", id, got)
	}
}

// Many names in one let, all of which the last term says.
func TestP102WideLet(t *testing.T) {
	const many = 150
	binds, last, want := list(), list(sym("+")), "(+"
	for i := range many {
		name := "z" + strconv.Itoa(i)
		binds.L = append(binds.L, list(sym(name), num(strconv.Itoa(i))))
		last.L = append(last.L, sym("z"+strconv.Itoa(many-1-i)))
		want += " " + strconv.Itoa(many-1-i)
	}
	wantSexp(t, nil, list(sym("let"), binds, last), want+")")
	binds.L = append(binds.L, list(sym("z75"), num("1")))
	wantError(t, nil, list(sym("let"), binds, last), api.ErrThere)
}

// Lets that double what the one ahead bound, again and again.
func TestP104DoublingLets(t *testing.T) {
	const levels = 500
	x := sym("a" + strconv.Itoa(levels))
	for i := levels; i > 0; i-- {
		ahead := sym("a" + strconv.Itoa(i-1))
		x = list(sym("let"), list(list(sym("a"+strconv.Itoa(i)), list(sym("+"), ahead, ahead))), x)
	}
	x = list(sym("let"), list(list(sym("a0"), num("1"))), x)
	wantBankOfSums(t, nil, x, levels)
}
