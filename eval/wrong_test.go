package eval_test

import (
	"math"
	"testing"

	"gudgeon/api"
	"gudgeon/eval"
	"gudgeon/term"
)

// oddBinds is assignments with all that may be wrong in one.
func oddBinds() [][]bind {
	return [][]bind{
		nil, {}, {{}}, make([]bind, 300), {{Name: "x"}}, {{V: api.Value{Sort: api.SortInt, I: num("3")}}}, {{Name: "x", V: api.Value{Sort: -1, I: num("3")}}}, {{Name: "s", V: api.Value{Sort: api.SortStr, S: []api.Run{{C: -1, N: -1}}}}},
		{{Name: "x", V: api.Value{Sort: api.SortInt, I: api.Whole{Neg: true, N: []uint32{0, 0}}}}}, {{Name: "\x00\xff", V: truthOf(true)}}, {{Name: "s", V: api.Value{Sort: math.MinInt, S: zigzag(70000, 1)}}}, {{Name: "x", V: api.Value{Sort: math.MaxInt}}, {Name: "x", V: api.Value{Sort: api.SortStr, S: []api.Run{{C: 97, N: math.MaxInt}, {C: 98, N: math.MaxInt}}}}},
	}
}

func TestP111NoTerm(t *testing.T) {
	var full term.Bank
	made(t, &full, "(+ x 1)")
	for _, b := range []*term.Bank{nil, {}, &full} {
		for _, id := range []int{b.Len(), b.Len() + 1, -1, -2, math.MaxInt, math.MaxInt - 1, math.MinInt, math.MinInt + 1, 1 << 32, -1 << 32, api.MaxTerms} {
			for _, l := range oddBinds() {
				wantNone(t, "no term", b, id, api.ErrArg, l...)
				wantHolds(t, b, []int{id}, false, api.ErrArg, l...)
			}
		}
		for _, l := range oddBinds() {
			wantHolds(t, b, nil, true, api.OK, l...)
			wantHolds(t, b, []int{}, true, api.OK, l...)
		}
	}
	for _, l := range oddBinds() {
		wantNone(t, "nil", nil, 0, api.ErrArg, l...)
		wantHolds(t, nil, []int{0, 1}, false, api.ErrArg, l...)
	}
}

// Whatever stands in an assignment, each term has a value that says nothing but what its sort says.
func TestP111OddBinds(t *testing.T) {
	for _, l := range oddBinds() {
		var b term.Bank
		made(t, &b, "(and p (= (+ x (str.len (str.++ s t))) (str.indexof s t x)) (= (str.replace s t u) (str.substr s x x)))")
		for id := range b.Len() {
			v, e := eval.Eval(&b, id, l)
			n, _ := b.At(id)
			if e != api.OK || v.Sort != n.Sort {
				t.Errorf("%d: %+v with error %d", id, v, e)
			}
			wantClean(t, "a term", v)
		}
	}
}

// What was asked ahead tells nothing of what is asked now.
func TestR5SameCallSameAnswer(t *testing.T) {
	x := newShelf(t)
	for range 3 {
		wantValue(t, "number", x.b, x.number, numberOf("6"), x.l...)
		wantValue(t, "number", x.b, x.number, numberOf("1"))
		wantValue(t, "text", x.b, x.text, textOf(chars("a")), x.l...)
		wantNone(t, "long", x.b, x.long, api.ErrLong, x.l...)
		wantValue(t, "long", x.b, x.long, numberOf("0"))
		x.wants(t, true, api.OK, x.yes)
		x.wants(t, false, api.ErrLong, x.longYes)
		wantNone(t, "none", x.b, x.none, api.ErrArg, x.l...)
	}
	if x.b.Len() != x.none {
		t.Errorf("%d terms, not %d", x.b.Len(), x.none)
	}
}
