package eval_test

import (
	"math"
	"math/rand"
	"slices"
	"testing"

	"gudgeon/api"
	"gudgeon/eval"
	"gudgeon/term"
)

// shelf is a bank with terms that are true, false, of other sorts, and too long, under its binds.
type shelf struct {
	b                                         *term.Bank
	yes, no, number, text, longYes, long, far int
	none                                      int
	l                                         []bind
}

// newShelf is such a bank.
func newShelf(t *testing.T) shelf {
	t.Helper()
	b := &term.Bank{}
	x := shelf{b: b, l: []bind{boolean("p", true), integer("x", "5"), long("s", []api.Run{run(97, most)}), letters("t", "b")}}
	x.yes, x.no = made(t, b, "(and p (<= 1 x 9))"), made(t, b, "(str.contains s t)")
	x.number, x.text = made(t, b, "(+ x 1)"), made(t, b, "(str.at s x)")
	x.longYes, x.long, x.far = made(t, b, "(or p (= (str.++ s t) s))"), made(t, b, "(str.len (str.++ t s))"), made(t, b, `(str.at (str.replace s "" t) 1)`)
	x.none = b.Len()
	return x
}

// wants complains if Holds of these ids tells otherwise.
func (x shelf) wants(t *testing.T, want bool, e api.Errno, ids ...int) {
	t.Helper()
	wantHolds(t, x.b, ids, want, e, x.l...)
}

func TestP112Holds(t *testing.T) {
	x := newShelf(t)
	x.wants(t, true, api.OK)
	wantHolds(t, x.b, nil, true, api.OK, x.l...)
	wantHolds(t, x.b, []int{}, true, api.OK)
	x.wants(t, true, api.OK, x.yes)
	x.wants(t, false, api.OK, x.no)
	x.wants(t, true, api.OK, x.yes, x.yes, x.yes)
	for _, ids := range [][]int{{x.yes, x.no}, {x.no, x.yes}, {x.no, x.no}, {x.yes, x.yes, x.no}, {x.yes, x.no, x.yes}, {x.no, x.yes, x.yes}} {
		x.wants(t, false, api.OK, ids...)
	}
	wantHolds(t, x.b, []int{x.yes}, false, api.OK)
	wantHolds(t, x.b, []int{x.yes}, true, api.OK, boolean("p", true), integer("x", "1"))
	wantHolds(t, x.b, []int{x.yes}, false, api.OK, boolean("p", true), integer("x", "10"))
}

func TestP112Errors(t *testing.T) {
	x := newShelf(t)
	for _, none := range []int{x.none, x.none + 1, -1, -2, math.MaxInt, math.MinInt, 1<<32 + x.yes, 1<<32 + x.none} {
		x.wants(t, false, api.ErrArg, none)
		x.wants(t, false, api.ErrArg, x.yes, none)
		x.wants(t, false, api.ErrArg, none, x.yes)
		x.wants(t, false, api.ErrArg, x.no, none)
		x.wants(t, false, api.ErrArg, none, x.number)
		x.wants(t, false, api.ErrArg, none, x.longYes)
		x.wants(t, false, api.ErrSort, x.number, none)
		x.wants(t, false, api.ErrLong, x.longYes, none)
		x.wants(t, false, api.ErrArg, x.no, x.yes, none, x.long, x.text, none)
	}
	x.wants(t, false, api.ErrSort, x.number)
	x.wants(t, false, api.ErrSort, x.text)
	x.wants(t, false, api.ErrSort, x.no, x.number)
	x.wants(t, false, api.ErrSort, x.number, x.no)
	x.wants(t, false, api.ErrSort, x.yes, x.text, x.yes)
	x.wants(t, false, api.ErrSort, x.number, x.longYes)
	x.wants(t, false, api.ErrSort, x.text, x.long)
	x.wants(t, false, api.ErrLong, x.longYes)
	x.wants(t, false, api.ErrLong, x.yes, x.longYes, x.number)
	x.wants(t, false, api.ErrLong, x.no, x.longYes)
	// Of one term what Eval tells of it comes ahead of its sort.
	x.wants(t, false, api.ErrLong, x.long)
	x.wants(t, false, api.ErrLong, x.far, x.number, x.none)
	x.wants(t, false, api.ErrLong, x.no, x.long, x.none)
	x.wants(t, false, api.ErrSort, x.text, x.far)
}

// Each row of ids is as Eval tells them, id by id.
func TestP112AsEval(t *testing.T) {
	x := newShelf(t)
	all := []int{x.yes, x.yes, x.yes, x.yes, x.no, x.number, x.text, x.longYes, x.long, x.far, x.none, -1}
	r := rand.New(rand.NewSource(112))
	for range 4000 {
		var ids []int
		for range r.Intn(6) {
			ids = append(ids, all[r.Intn(len(all))])
		}
		want, e := true, api.OK
		for _, id := range ids {
			v, wrong := eval.Eval(x.b, id, x.l)
			if wrong == api.OK && v.Sort != api.SortBool {
				wrong = api.ErrSort
			}
			if wrong != api.OK {
				want, e = false, wrong
				break
			}
			want = want && v.B
		}
		x.wants(t, want, e, ids...)
	}
}

// Many ids, also one and the same, are told together: each term once.
func TestP112ManyIds(t *testing.T) {
	var b term.Bank
	id := made(t, &b, "p")
	ids := []int{id}
	for b.Len() < api.MaxTerms {
		id, _ = b.App(api.OpAnd, []int{id, id})
		ids = append(ids, id)
	}
	ids = append(ids, slices.Repeat([]int{id}, 200000)...)
	wantHolds(t, &b, ids, true, api.OK, boolean("p", true))
	wantHolds(t, &b, ids, false, api.OK)
	wantHolds(t, &b, append(ids, b.Len()), false, api.ErrArg, boolean("p", true))
	for _, at := range []int{0, 5000, 20000, len(ids) - 1} {
		other := slices.Clone(ids)
		other[at] = -1
		wantHolds(t, &b, other, false, api.ErrArg, boolean("p", true))
	}
}
