package show_test

import (
	"math/big"
	"strings"
	"testing"

	"gudgeon/api"
	"gudgeon/show"
	"gudgeon/term"
)

func TestP121Leaves(t *testing.T) {
	for _, script := range []string{
		"p", "x", "s", "true", "false", "0", "1", "9", "10", "4294967295", "4294967296", "340282366920938463463374607431768211456", strings.Repeat("9", 2000),
		`""`, `"a"`, `"abba"`, `"a""b"`, `""""`, `" "`, `"~"`, `"(x) ; |y|"`, `"\u{5c}"`, `"\u{0}"`, `"\u{a}"`, `"\u{7f}"`, `"\u{ff}"`, `"\u{2ffff}"`, `"a\u{5c}u{62}"`, `"\u{5c}u0062b"`, `"u{62}\u{1f}\u{80}"`,
	} {
		wantTerm(t, script)
	}
}

// A literal may be written in ways other than the one in which it is told.
func TestP121LiteralsOtherwise(t *testing.T) {
	for script, want := range map[string]string{
		`"\u{62}"`: `"b"`, `"\u0062\u{062}"`: `"bb"`, `"\"`: `"\u{5c}"`, `"\u{30000}"`: `"\u{5c}u{30000}"`, `"\u{2FFFF}"`: `"\u{2ffff}"`, "\"\t\"": `"\u{9}"`, `"\u{000a}"`: `"\u{a}"`, `"\u{22}"`: `""""`,
	} {
		var b term.Bank
		x, e := show.Term(&b, made(t, &b, script))
		wantSays(t, script, x, e, want)
	}
}

func TestP121Operations(t *testing.T) {
	for _, script := range []string{
		"(not p)", "(and p q)", "(or p q r)", "(=> p q p)", "(xor p p)", "(= x y)", "(= s t u s)", "(= p q)", "(distinct x 1 2)", "(distinct s t)", "(distinct p q r)", "(ite p x y)", "(ite p s t)", "(ite p q r)",
		"(- x)", "(- 5)", "(- 0)", "(- x y)", "(- x x x 1)", "(+ x 1)", "(+ 1 x 1 x)", "(* 2 x)", "(* x 2 3)", "(* (- 2) x)", "(* 2 3)", "(<= x y)", "(<= 1 x 3)", "(< x y)", "(>= x y)", "(> x y z)",
		"(str.++ s t)", `(str.++ s "a" t s)`, "(str.len s)", "(str.at s x)", "(str.substr s 0 x)", "(str.prefixof s t)", "(str.suffixof s t)", "(str.contains s t)", "(str.indexof s t 0)", "(str.replace s t u)",
	} {
		wantTerm(t, script)
	}
}

func TestP121Deeper(t *testing.T) {
	for _, script := range []string{
		`(and (not (= (str.++ s "a" t) "\u{5c}n")) (or p (< (- (str.len s)) (- x 1)) q) (=> (ite p q r) (distinct x (+ 1 (* 3 x)) (- (- x)))))`,
		"(= (str.replace (str.at s (str.indexof t u (- 1))) (str.substr s x (- y z)) s) (ite (str.prefixof s t) (ite (str.suffixof s t) s t) u))",
		"(xor (>= (- x (- y) (- 3 4)) (- (- 1))) (str.contains (str.++ s s) s) (> 1 2) true false)",
		"(- (- (- (- (- x)))))", "(not (not (not (not p))))", "(+ (+ (+ x x) (+ x x)) (+ (+ x x) (+ x x)))",
	} {
		wantTerm(t, script)
	}
}

// What is told of a term does not hang on what else is in its bank, nor on the order in which it came.
func TestP121OneBank(t *testing.T) {
	var b term.Bank
	scripts := []string{"(+ x 1)", "x", "(= (+ x 1) (+ 1 x))", "1", "(- x)", "(- x 1)", `(str.len "1")`, `"1"`, "(ite (= x 1) x 1)", "(- 1)", "true", "(not true)"}
	var ids []int
	for _, script := range scripts {
		ids = append(ids, made(t, &b, script))
	}
	for i, script := range scripts {
		x, e := show.Term(&b, ids[i])
		wantSays(t, script, x, e, script)
	}
}

// Of a constant its name is told, whatever that is and whatever else it might say.
func TestP121Names(t *testing.T) {
	var b term.Bank
	names := []string{"a", "", "true", "false", "let", "and", "str.++", "a b", "|", "\\", "12", `"`, "(", "\x00\xff", "é", "d0", "-", strings.Repeat("n", api.MaxScript)}
	for _, name := range names {
		for sort := api.SortBool; sort <= api.SortStr; sort++ {
			id := sure(t)(b.Const(name, sort))
			both := sure(t)(b.App(api.OpEq, []int{id, id}))
			x, e := show.Term(&b, id)
			wantSymbol(t, x, e, name)
			x, e = show.Term(&b, both)
			if e != api.OK || !x.List || len(x.L) != 3 {
				t.Errorf("%s: %+v with error %d", some(name), x, e)
				continue
			}
			wantSymbol(t, x.L[0], e, "=")
			wantSymbol(t, x.L[1], e, name)
			wantSymbol(t, x.L[2], e, name)
		}
	}
}

// wantSymbol complains if x is not the atom of a name.
func wantSymbol(t *testing.T, x api.Sexp, e api.Errno, name string) {
	t.Helper()
	wantBare(t, name, x)
	if e != api.OK || x.List || x.Tok.Kind != api.TokSymbol || x.Tok.Text != name {
		t.Errorf("%s: %+v with error %d", some(name), x, e)
	}
}

// Digits are told of numbers, however many they are.
func TestP121LongNumbers(t *testing.T) {
	var b term.Bank
	limbs := make([]uint32, 1000)
	limbs[999] = 1
	id := sure(t)(b.Num(api.Whole{N: limbs}))
	x, e := show.Term(&b, id)
	wantBare(t, "2^31968", x)
	if e != api.OK || x.Tok.Kind != api.TokNumeral || x.Tok.Text != new(big.Int).Lsh(big.NewInt(1), 31968).String() {
		t.Errorf("%s with error %d", some(x.Tok.Text), e)
	}
	for n, want := range map[string]api.Whole{"0": {N: []uint32{0, 0}}, "1": {N: []uint32{1, 0}}, "18446744073709551616": {N: []uint32{0, 0, 1, 0}}} {
		x, e := show.Term(&b, sure(t)(b.Num(want)))
		wantSays(t, n, x, e, n)
	}
	if x, e := show.Term(&b, sure(t)(b.Num(api.Whole{Neg: true}))); e != api.OK || spelt(x) != "0" {
		t.Errorf("%s with error %d, not 0", spelt(x), e)
	}
}
