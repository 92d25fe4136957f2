package eval_test

import (
	"math"
	"testing"

	"gudgeon/api"
	"gudgeon/eval"
	"gudgeon/term"
)

// consts is a bank with constants of each sort: 0, 1 and 2 are named a, and 3, 4 and 5 have an empty name.
func consts(t *testing.T) *term.Bank {
	t.Helper()
	b := &term.Bank{}
	for i, name := range []string{"a", "a", "a", "", "", ""} {
		if id, e := b.Const(name, i%3+1); id != i || e != api.OK {
			t.Fatalf("%d with error %d", id, e)
		}
	}
	return b
}

// wantConsts complains if the constants of that name are told otherwise.
func wantConsts(t *testing.T, name string, l []bind, truth, number, text string) {
	t.Helper()
	b := consts(t)
	first := map[string]int{"a": 0, "": 3}[name]
	for i, want := range []string{truth, number, text} {
		v, e := eval.Eval(b, first+i, l)
		if e != api.OK || v.Sort != i+1 || told(v) != want {
			t.Errorf("%q of sort %d under %+v: %s with error %d, not %s", name, i+1, l[:min(len(l), 4)], told(v), e, want)
			continue
		}
		wantClean(t, name, v)
	}
}

func TestP111Constants(t *testing.T) {
	yes, five, ab := boolean("a", true), integer("a", "5"), letters("a", "ab")
	wantConsts(t, "a", []bind{}, "false", "0", `""`)
	wantConsts(t, "a", []bind{yes}, "true", "0", `""`)
	wantConsts(t, "a", []bind{five}, "false", "5", `""`)
	wantConsts(t, "a", []bind{ab}, "false", "0", `"ab"`)
	wantConsts(t, "a", []bind{ab, yes, five}, "true", "5", `"ab"`)
	wantConsts(t, "a", []bind{five, ab, yes, letters("a", "b"), boolean("a", false), integer("a", "-6")}, "true", "5", `"ab"`)
	// Other names say nothing of it, also where they look much like it.
	wantConsts(t, "a", []bind{boolean("A", true), integer("b", "5"), letters("aa", "ab"), integer(" a", "5"), integer("a ", "5"), integer("|a|", "5"), integer("", "5"), boolean("", true), letters("", "b")}, "false", "0", `""`)
	wantConsts(t, "a", []bind{boolean("b", true), integer("b", "7"), ab, yes, five}, "true", "5", `"ab"`)
	// The first one counts, also where it says zero.
	wantConsts(t, "a", []bind{boolean("a", false), integer("a", "0"), letters("a", ""), yes, five, ab}, "false", "0", `""`)
}

func TestP111ConstantsWithoutName(t *testing.T) {
	wantConsts(t, "", []bind{boolean("a", true), integer("a", "5"), letters("a", "ab")}, "false", "0", `""`)
	wantConsts(t, "", []bind{boolean("", true), integer("", "5"), letters("", "ab")}, "true", "5", `"ab"`)
}

// Binds of no sort say nothing, and stand in nobody's way.
func TestP111BindsOfNoSort(t *testing.T) {
	for _, sort := range []int{0, -1, 4, 256 + 2, 1<<32 + 2, math.MaxInt, math.MinInt} {
		v := api.Value{Sort: sort, B: true, I: num("5"), S: chars("ab")}
		for _, name := range []string{"a", ""} {
			wantConsts(t, name, []bind{{Name: name, V: v}}, "false", "0", `""`)
			wantConsts(t, name, []bind{{Name: name, V: v}, boolean(name, true), integer(name, "6"), letters(name, "b")}, "true", "6", `"b"`)
		}
	}
}

// Of a text that may not be, a bind says nothing: the first one counts whose text may be.
func TestP111TextsThatMayNotBe(t *testing.T) {
	for _, s := range [][]api.Run{
		{run(97, 0)}, {run(97, -1)}, {run(-1, 1)}, {run(0x30000, 1)}, {run(97, 1), run(97, 1)}, {run(97, 1), run(98, 1), run(98, 2)}, {{}}, {run(97, most+1)}, {run(97, most), run(98, 1)},
		{run(97, math.MaxInt), run(98, math.MaxInt), run(97, 2)}, zigzag(65537, 1), {run(math.MinInt, 1)}, {run(97, math.MinInt)},
	} {
		wantConsts(t, "a", []bind{long("a", s)}, "false", "0", `""`)
		wantConsts(t, "a", []bind{long("a", s), letters("a", "ab"), letters("a", "b")}, "false", "0", `"ab"`)
		wantConsts(t, "a", []bind{long("a", s), letters("b", "ab"), integer("a", "3"), long("a", s), letters("a", "")}, "false", "3", `""`)
		wantConsts(t, "a", []bind{letters("a", "b"), long("a", s)}, "false", "0", `"b"`)
		// What else a value has says nothing, whatever its text.
		wantConsts(t, "a", []bind{{Name: "a", V: api.Value{Sort: api.SortBool, B: true, S: s}}, {Name: "a", V: api.Value{Sort: api.SortInt, I: num("9"), S: s}}}, "true", "9", `""`)
	}
}

// Fields of other sorts say nothing, and a number need not be in its own form.
func TestP111FieldsThatSayNothing(t *testing.T) {
	all := api.Value{B: true, I: num("-5"), S: chars("ab")}
	of := func(sort int) bind { v := all; v.Sort = sort; return bind{Name: "a", V: v} }
	wantConsts(t, "a", []bind{of(api.SortBool), of(api.SortInt), of(api.SortStr)}, "true", "-5", `"ab"`)
	all.B = false
	wantConsts(t, "a", []bind{of(api.SortBool), of(api.SortInt), of(api.SortStr)}, "false", "-5", `"ab"`)
	for _, n := range []struct {
		n    api.Whole
		want string
	}{
		{api.Whole{N: []uint32{0}}, "0"}, {api.Whole{N: []uint32{0, 0, 0}, Neg: true}, "0"}, {api.Whole{Neg: true}, "0"}, {api.Whole{N: []uint32{7, 0}}, "7"}, {api.Whole{N: []uint32{7, 0, 0}, Neg: true}, "-7"}, {api.Whole{N: []uint32{0, 1, 0}}, "4294967296"},
	} {
		l := []bind{{Name: "x", V: api.Value{Sort: api.SortInt, I: n.n, B: true, S: zigzag(65537, 1)}}}
		want(t, "x", n.want, l...)
		want(t, "(= x "+wrapped(n.want)+")", "true", l...)
		want(t, "(distinct "+wrapped(n.want)+" x)", "false", l...)
		want(t, "(<= x "+wrapped(n.want)+" x)", "true", l...)
		want(t, "(ite (= x y) x (+ x 0))", n.want, l...)
		want(t, "(= (- x) (- "+wrapped(n.want)+"))", "true", l...)
	}
}

// wrapped is a number as a script says it.
func wrapped(n string) string {
	if n[0] == '-' {
		return "(- " + n[1:] + ")"
	}
	return n
}
