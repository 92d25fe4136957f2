package build_test

import (
	"math/big"
	"reflect"
	"strings"
	"testing"

	"gudgeon/api"
	"gudgeon/build"
	"gudgeon/nat"
	"gudgeon/term"
)

// wantNode complains if the term of x is another one, or more than that is in the bank.
func wantNode(t *testing.T, l []api.Decl, x api.Sexp, want api.Node) {
	t.Helper()
	b := &term.Bank{}
	id, e := build.Term(b, l, x)
	n, _ := b.At(id)
	if e != api.OK || id != 0 || b.Len() != 1 || !reflect.DeepEqual(n, want) {
		t.Errorf("%s: %d with error %d, of %d terms", shown(x), id, e, b.Len())
	}
}

func TestP102Numerals(t *testing.T) {
	for _, digits := range []string{"0", "1", "7", "10", "4294967295", "4294967296", "18446744073709551616", "1" + strings.Repeat("0", 1999), strings.Repeat("9", 2000), "123456789"} {
		want, _ := new(big.Int).SetString(digits, 10)
		var limbs []uint32
		for n := new(big.Int).Set(want); n.Sign() > 0; n.Rsh(n, 32) {
			limbs = append(limbs, uint32(n.Uint64()))
		}
		wantNode(t, nil, num(digits), api.Node{Op: api.OpNum, Sort: api.SortInt, Num: api.Whole{N: limbs}})
	}
	for _, digits := range []string{
		strings.Repeat("9", 2001), "1" + strings.Repeat("0", 2000), strings.Repeat("9", 30000), "00", "007", "01", "0" + strings.Repeat("9", 1999), "0" + strings.Repeat("9", 2000), strings.Repeat("0", 2001),
		"", " ", "-1", "+1", "-0", "1.0", "1e3", "1 ", " 1", "x", "0x1", "1\n", "true", "\xff", "１",
	} {
		wantError(t, nil, num(digits), api.ErrOp)
	}
	// A numeral is none of the names that are declared.
	wantError(t, []api.Decl{{Name: "x", Sort: api.SortInt}}, num("x"), api.ErrOp)
	wantTerm(t, []api.Decl{{Name: "7", Sort: api.SortInt}}, "7", "7")
}

// wantText complains if the term of a literal says another text.
func wantText(t *testing.T, literal string, l ...api.Run) {
	t.Helper()
	wantNode(t, nil, str(literal), api.Node{Op: api.OpStr, Sort: api.SortStr, Str: l})
}

func TestP102Literals(t *testing.T) {
	wantText(t, "")
	wantText(t, "a", api.Run{C: 97, N: 1})
	wantText(t, "aaab", api.Run{C: 97, N: 3}, api.Run{C: 98, N: 1})
	wantText(t, `a"b`, api.Run{C: 97, N: 1}, api.Run{C: 34, N: 1}, api.Run{C: 98, N: 1})
	wantText(t, `b\u{62}\u0062`, api.Run{C: 98, N: 3})
	wantText(t, `\u{2ffff}`, api.Run{C: 0x2ffff, N: 1})
	wantText(t, `\u{0}\u0000`, api.Run{C: 0, N: 2})
	wantText(t, `\u{}`, api.Run{C: 92, N: 1}, api.Run{C: 'u', N: 1}, api.Run{C: '{', N: 1}, api.Run{C: '}', N: 1})
	wantText(t, `\u{30000}`, api.Run{C: 92, N: 1}, api.Run{C: 'u', N: 1}, api.Run{C: '{', N: 1}, api.Run{C: '3', N: 1}, api.Run{C: '0', N: 4}, api.Run{C: '}', N: 1})
	wantText(t, "x", api.Run{C: 'x', N: 1})
	wantText(t, "true", api.Run{C: 't', N: 1}, api.Run{C: 'r', N: 1}, api.Run{C: 'u', N: 1}, api.Run{C: 'e', N: 1})
	// Bytes that no script has are code points all the same.
	wantText(t, "\xff\n\xff", api.Run{C: 255, N: 1}, api.Run{C: 10, N: 1}, api.Run{C: 255, N: 1})
	wantText(t, strings.Repeat("a", 100000), api.Run{C: 97, N: 100000})
	b, id := wantSexp(t, nil, read(t, `"a""\u{62}"`), `"a"b"`)
	if n, _ := b.At(id); n.Op != api.OpStr || n.Sort != api.SortStr {
		t.Errorf("%v", n)
	}
}

// A literal of as many runs as a text may have, and of one more, of which Runs tells none.
func TestP102LongLiterals(t *testing.T) {
	var l []api.Run
	for i := range 65536 {
		l = append(l, api.Run{C: 97 + i%2, N: 1})
	}
	most := strings.Repeat("ab", 32768)
	wantText(t, most, l...)
	wantText(t, most+"a")
	wantText(t, most+most)
	l[65535].N = 2
	wantText(t, most+"b", l...)
	wantSexp(t, nil, list(sym("="), str(""), str(most+"a")), `(= "" "")`)
}

func TestP102OtherAtoms(t *testing.T) {
	l := stock(t)
	for _, kind := range oddKinds() {
		for _, text := range []string{"", "x", "p", "one", "1", "true", "false", "nope", "let", "(", ":x", "#b1", "1.5", "str.len"} {
			wantError(t, l, atom(kind, text), api.ErrOp)
			wantError(t, nil, atom(kind, text), api.ErrOp)
		}
	}
	wantErrors(t, l, wrong{"1.5", api.ErrOp, nil}, wrong{":x", api.ErrOp, nil}, wrong{"#b1", api.ErrOp, nil}, wrong{"#xff", api.ErrOp, nil})
	wantError(t, l, api.Sexp{}, api.ErrOp)
}

// What stands in fields that an atom, or a list, has no use for says nothing.
func TestP102FieldsWithoutUse(t *testing.T) {
	l := stock(t)
	x := read(t, "(+ x (inc 1))")
	x.Tok, x.At = api.Token{Kind: api.TokSymbol, Text: "y", At: 5}, -1
	x.L[1].At, x.L[1].Tok.At = -5, 1<<62
	wantSexp(t, l, x, "(+ x (+ 1 1))")
	wantError(t, l, api.Sexp{List: true, Tok: api.Token{Kind: api.TokSymbol, Text: "x"}}, api.ErrArg)
}

func TestP102Truths(t *testing.T) {
	yes, no := api.Node{Op: api.OpTrue, Sort: api.SortBool}, api.Node{Op: api.OpFalse, Sort: api.SortBool}
	for _, l := range [][]api.Decl{
		nil, stock(t), decls(t, "(true Int)", "(false Int)"), decls(t, "(true () Int 1)", "(false () Bool true)"), decls(t, "(true ((a Int)) Int 1)", "(false ((a Int)) Int a)"),
	} {
		wantNode(t, l, read(t, "true"), yes)
		wantNode(t, l, read(t, "false"), no)
		wantNode(t, l, read(t, "|true|"), yes)
		wantErrors(t, l, wrong{"(true)", api.ErrOp, nil}, wrong{"(false 1)", api.ErrOp, nil}, wrong{"(true nope)", api.ErrOp, nil},
			wrong{"(let ((true false)) true)", api.ErrOp, nil}, wrong{"(let ((x 1) (false nope)) false)", api.ErrOp, nil})
	}
	// A parameter of that name does not say it either.
	l := decls(t, "(f ((true Bool) (a Int)) Bool (and true false))", "(x Int)")
	wantTerm(t, l, "(f false x)", "(and true false)")
	for _, other := range []string{"True", "TRUE", "FALSE", "t", "truee", "fals"} {
		wantError(t, nil, sym(other), api.ErrName)
	}
}

func TestP102ReservedAtoms(t *testing.T) {
	for _, name := range append(allReserved(), "str.", "re.", "str.x", "re.all") {
		if name == "true" || name == "false" {
			continue
		}
		for _, l := range [][]api.Decl{
			nil, {{Name: name, Sort: api.SortInt}}, {{Name: name, Sort: api.SortBool, Macro: true, Body: sym("true")}},
			{{Name: name, Macro: true, Params: []api.Param{{Name: "a", Sort: api.SortInt}}, Body: sym("a")}},
		} {
			wantError(t, l, sym(name), api.ErrOp)
			wantError(t, l, list(sym("let"), list(list(sym(name), num("1"))), sym(name)), api.ErrOp)
			wantError(t, l, list(sym("+"), num("1"), sym(name), sym("nope")), api.ErrOp, "1")
		}
		f := api.Decl{Name: "f", Macro: true, Params: []api.Param{{Name: name, Sort: api.SortInt}}, Body: sym(name)}
		wantError(t, []api.Decl{f}, list(sym("f"), num("1")), api.ErrOp, "1")
	}
}

// All numbers of a list, as large as they are, are made once.
func TestP102EqualAtoms(t *testing.T) {
	b := &term.Bank{}
	for range 3 {
		id, e := build.Term(b, nil, list(sym("+"), num("5"), num(strings.Repeat("9", 2000)), num("5")))
		if n, _ := b.At(1); id != 2 || e != api.OK || b.Len() != 3 || nat.Text(n.Num.N) != strings.Repeat("9", 2000) {
			t.Errorf("%d with error %d, of %d terms", id, e, b.Len())
		}
	}
}
