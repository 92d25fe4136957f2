package show_test

import (
	"testing"

	"gudgeon/api"
	"gudgeon/build"
	"gudgeon/eval"
	"gudgeon/sexp"
	"gudgeon/show"
	"gudgeon/term"
	"gudgeon/whole"
)

// reread is an s-expression as it is read of what is printed of it, or itself, where no script may be so long.
func reread(t *testing.T, x api.Sexp) api.Sexp {
	t.Helper()
	text, e := sexp.Print(x)
	if e != api.OK {
		t.Fatalf("%s can't be printed, error %d", some(spelt(x)), e)
	}
	l := sexp.Read(text)
	if len(l) != 1 || l[0].E != api.OK {
		if l[len(l)-1].E == api.ErrLong {
			return x
		}
		t.Fatalf("%s is read as %d items", some(text), len(l))
	}
	return l[0].X
}

// wantSame complains if what a term is told by says another one.
func wantSame(t *testing.T, b *term.Bank, id int, x api.Sexp) {
	t.Helper()
	read, was := reread(t, x), b.Len()
	got, e := build.Term(b, declared(), read)
	if got != id || e != api.OK || b.Len() != was {
		t.Errorf("%s: the term %d with error %d, not %d", some(spelt(x)), got, e, id)
	}
	var other term.Bank
	made, e := build.Term(&other, declared(), read)
	again, f := show.Term(&other, made)
	if e != api.OK || f != api.OK || spelt(again) != spelt(x) {
		t.Errorf("%s: in a bank of its own it is %s", some(spelt(x)), some(spelt(again)))
	}
}

// wantIs complains if what a value is told by says no term without constants that is that value.
func wantIs(t *testing.T, v api.Value) {
	t.Helper()
	x, e := show.Value(v)
	if e != api.OK {
		t.Errorf("%+v: error %d", v, e)
		return
	}
	var b term.Bank
	id, e := build.Term(&b, nil, reread(t, x))
	if e != api.OK {
		t.Errorf("%s: no term, error %d", some(spelt(x)), e)
		return
	}
	for n := range b.Len() {
		if node, _ := b.At(n); node.Op == api.OpConst {
			t.Errorf("%s has the constant %s", some(spelt(x)), node.Name)
		}
	}
	got, e := eval.Eval(&b, id, nil)
	if e != api.OK || !alike(got, v) {
		t.Errorf("%s: it is not what was told, error %d", some(spelt(x)), e)
	}
}

// alike tells whether two values are one: of each only what its sort says counts.
func alike(v, w api.Value) bool {
	if v.Sort != w.Sort {
		return false
	}
	switch v.Sort {
	case api.SortBool:
		return v.B == w.B
	case api.SortInt:
		return whole.Cmp(v.I, w.I) == 0
	}
	if len(v.S) != len(w.S) {
		return false
	}
	for i, r := range v.S {
		if w.S[i] != r {
			return false
		}
	}
	return v.Sort == api.SortStr
}
