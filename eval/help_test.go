package eval_test

import (
	"reflect"
	"slices"
	"strconv"
	"strings"
	"testing"

	"gudgeon/api"
	"gudgeon/build"
	"gudgeon/eval"
	"gudgeon/lit"
	"gudgeon/runs"
	"gudgeon/sexp"
	"gudgeon/term"
	"gudgeon/whole"
)

// most is how many code points a text has at most.
const most = 1 << 40

// run is so many of one code point.
func run(c, n int) api.Run { return api.Run{C: c, N: n} }

// chars is the text that a literal says.
func chars(text string) []api.Run {
	l, _ := lit.Runs(lit.Points(text))
	return l
}

// zigzag is a text of n runs, of so many code points each: a, b, c, a, b ..
func zigzag(n, each int) []api.Run {
	l := make([]api.Run, n)
	for i := range l {
		l[i] = run(97+i%3, each)
	}
	return l
}

// truthOf, numberOf and textOf are values without anything besides what their sort says.
func truthOf(b bool) api.Value        { return api.Value{Sort: api.SortBool, B: b} }
func numberOf(n string) api.Value     { return api.Value{Sort: api.SortInt, I: num(n)} }
func textOf(s []api.Run) api.Value    { return api.Value{Sort: api.SortStr, S: s} }
func boolean(n string, b bool) bind   { return bind{Name: n, V: truthOf(b)} }
func integer(n, i string) bind        { return bind{Name: n, V: numberOf(i)} }
func letters(n, s string) bind        { return bind{Name: n, V: textOf(chars(s))} }
func long(n string, s []api.Run) bind { return bind{Name: n, V: textOf(s)} }

type bind = api.Bind

// num is the number that digits, with a - ahead or not, say.
func num(digits string) api.Whole {
	n, e := whole.Parse(digits)
	if e != api.OK {
		panic(digits + " is no number")
	}
	return n
}

// declared is what all tests have declared: truths p, q, r, numbers x, y, z, texts s, t, u.
func declared() []api.Decl {
	var l []api.Decl
	for i, names := range []string{"pqr", "xyz", "stu"} {
		for _, c := range names {
			l = append(l, api.Decl{Name: string(c), Sort: api.SortBool + i})
		}
	}
	return l
}

// made is the term that a script says, in the bank b.
func made(t *testing.T, b *term.Bank, script string) int {
	t.Helper()
	l := sexp.Read(script)
	if len(l) != 1 || l[0].E != api.OK {
		t.Fatalf("%s is no s-expression", some(script))
	}
	id, e := build.Term(b, declared(), l[0].X)
	if e != api.OK {
		t.Fatalf("%s: no term, error %d", some(script), e)
	}
	return id
}

// some is no more of a text than can be read at a glance.
func some(s string) string {
	if len(s) > 100 {
		return s[:100] + ".. (" + strconv.Itoa(len(s)) + " bytes)"
	}
	return s
}

// told is a value as it is written in tests: a text of more than 100 code points by its runs.
func told(v api.Value) string {
	switch v.Sort {
	case api.SortBool:
		return strconv.FormatBool(v.B)
	case api.SortInt:
		return whole.Text(v.I)
	case api.SortStr:
		return toldText(v.S)
	}
	return "nothing"
}

// toldText is a text between quotes, or by its runs.
func toldText(s []api.Run) string {
	l, e := lit.List(s, 100)
	if e == api.OK {
		text, _ := lit.Escape(l)
		return `"` + text + `"`
	}
	var b strings.Builder
	for _, r := range s[:min(len(s), 8)] {
		b.WriteString(strconv.Itoa(r.N) + "*" + strconv.Itoa(r.C) + " ")
	}
	return b.String() + "in " + strconv.Itoa(len(s))
}

// wantClean complains if a value has anything besides what its sort says, or that in another form than its own.
func wantClean(t *testing.T, what string, v api.Value) {
	t.Helper()
	ok := v.Sort == api.SortBool && len(v.I.N) == 0 && !v.I.Neg && len(v.S) == 0 ||
		v.Sort == api.SortInt && !v.B && len(v.S) == 0 && ownForm(v.I) ||
		v.Sort == api.SortStr && !v.B && len(v.I.N) == 0 && !v.I.Neg && runs.May(v.S)
	if !ok {
		t.Errorf("%s: %+v has more than its sort says, or not in its own form", some(what), v)
	}
}

// ownForm tells whether a number has no noughts in its N, and is no 0 with a Neg.
func ownForm(n api.Whole) bool {
	return (len(n.N) == 0 || n.N[len(n.N)-1] != 0) && !(n.Neg && len(n.N) == 0)
}

// wantValue complains if a term is told as another value.
func wantValue(t *testing.T, what string, b *term.Bank, id int, want api.Value, l ...bind) {
	t.Helper()
	got, e := eval.Eval(b, id, l)
	if e != api.OK || told(got) != told(want) || got.Sort != want.Sort || !slices.Equal(got.S, want.S) {
		t.Errorf("%s: %s with error %d, not %s", some(what), some(told(got)), e, some(told(want)))
		return
	}
	wantClean(t, what, got)
}

// want complains if what a script says is told otherwise.
func want(t *testing.T, script, want string, l ...bind) {
	t.Helper()
	var b term.Bank
	id := made(t, &b, script)
	got, e := eval.Eval(&b, id, l)
	if e != api.OK || told(got) != want {
		t.Errorf("%s: %s with error %d, not %s", some(script), some(told(got)), e, some(want))
		return
	}
	n, _ := b.At(id)
	if got.Sort != n.Sort {
		t.Errorf("%s: of sort %d, not %d", some(script), got.Sort, n.Sort)
	}
	wantClean(t, script, got)
}

// wants complains of each that is told otherwise; the scripts are keys.
func wants(t *testing.T, all map[string]string, l ...bind) {
	t.Helper()
	for script, w := range all {
		want(t, script, w, l...)
	}
}

// wantNone complains if there is another error than that, or anything beside it.
func wantNone(t *testing.T, what string, b *term.Bank, id int, want api.Errno, l ...bind) {
	t.Helper()
	got, e := eval.Eval(b, id, l)
	if e != want || !reflect.DeepEqual(got, api.Value{}) {
		t.Errorf("%s: %s with error %d, not nothing with %d", some(what), some(told(got)), e, want)
	}
}

// wantLong complains if what a script says is not too long.
func wantLong(t *testing.T, script string, l ...bind) {
	t.Helper()
	var b term.Bank
	wantNone(t, script, &b, made(t, &b, script), api.ErrLong, l...)
}

// wantHolds complains if Holds tells otherwise.
func wantHolds(t *testing.T, b *term.Bank, ids []int, want bool, wantE api.Errno, l ...bind) {
	t.Helper()
	if got, e := eval.Holds(b, ids, l); got != want || e != wantE {
		t.Errorf("%v: %v with error %d, not %v with %d", ids[:min(len(ids), 20)], got, e, want, wantE)
	}
}
