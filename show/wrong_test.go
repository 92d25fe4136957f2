package show_test

import (
	"math"
	"reflect"
	"testing"

	"gudgeon/api"
	"gudgeon/show"
	"gudgeon/term"
)

func TestP121NoTerm(t *testing.T) {
	var some, full term.Bank
	made(t, &some, "(+ x 1)")
	nots(t, &full, api.MaxTerms-1)
	for _, b := range []*term.Bank{nil, {}, &some, &full} {
		for _, id := range []int{b.Len(), b.Len() + 1, -1, -2, math.MaxInt, math.MaxInt - 1, math.MinInt, math.MinInt + 1, 1 << 32, -1 << 32, api.MaxTerms} {
			x, e := show.Term(b, id)
			wantNone(t, "no term", x, e, api.ErrArg)
		}
	}
	for _, id := range []int{0, 1, 2} {
		x, e := show.Term(nil, id)
		wantNone(t, "nil", x, e, api.ErrArg)
	}
}

// In a full bank terms are told as anywhere else, and none comes.
func TestP121FullBank(t *testing.T) {
	var b term.Bank
	for n := range api.MaxTerms - 3 {
		sure(t)(b.Num(api.Whole{N: []uint32{uint32(n), 1}}))
	}
	sum := made(t, &b, "(+ x 4294967297)")
	last := sure(t)(b.App(api.OpLe, []int{sum, 0, sum}))
	if b.Len() != api.MaxTerms {
		t.Fatalf("%d terms", b.Len())
	}
	x, e := show.Term(&b, last)
	wantSays(t, "the last one", x, e, "(<= (+ x 4294967297) 4294967296 (+ x 4294967297))")
	x, e = show.Term(&b, api.MaxTerms-4)
	wantSays(t, "a number", x, e, "4294987292")
	if b.Len() != api.MaxTerms {
		t.Errorf("%d terms", b.Len())
	}
}

// What was asked ahead tells nothing of what is asked now.
func TestR5SameCallSameAnswer(t *testing.T) {
	var b term.Bank
	ids := []int{made(t, &b, `(ite (= s "a") (+ x 12) (- 3))`), made(t, &b, `(str.++ "a" s "a")`), nots(t, &b, 64), nots(t, &b, 65), sized(t, &b, 2001), b.Len(), -1}
	values := []api.Value{{}, truthOf(true), numberOf("-12"), textOf(lengths(5, 2000, 3)), textOf(lengths(1 << 40)), textOf(zigzag(201, 1000)), textOf([]api.Run{{}}), textOf(nil)}
	type answer struct {
		x api.Sexp
		e api.Errno
	}
	ask := func() []answer {
		var l []answer
		for _, id := range ids {
			x, e := show.Term(&b, id)
			l = append(l, answer{x, e})
		}
		for _, v := range values {
			x, e := show.Value(v)
			l = append(l, answer{x, e})
		}
		return l
	}
	first := ask()
	for range 3 {
		if !reflect.DeepEqual(ask(), first) {
			t.Error("asked again, another answer")
		}
	}
}
