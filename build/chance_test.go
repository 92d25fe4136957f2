package build_test

import (
	"math/rand"
	"slices"
	"testing"

	"gudgeon/api"
	"gudgeon/build"
	"gudgeon/term"
)

// junk is what may be wrong anywhere.
func junk(r *rand.Rand) api.Sexp {
	l := []api.Sexp{
		{}, {List: true}, sym("nope"), sym("x"), sym("p"), sym("s"), sym("a"), sym("b"), sym("z"), sym("f0"), sym("f1"), sym("f2"), sym("and"), sym("let"), sym("div"), sym("str.x"), sym("re.all"), sym("true"), sym(""),
		num("7"), num("007"), num(""), str("a"), str(""), atom(api.TokDecimal, "1.5"), atom(api.TokKeyword, ":x"), atom(api.TokOpen, "("), atom(-5, "x"),
		list(sym("x")), list(sym("f0")), list(sym("f1"), num("1")), list(sym("+"), num("1")), list(num("1")), list(list()), list(sym("let"), list(), num("5")), list(sym("mod"), num("5"), num("2")),
		list(sym("let"), list(list(sym("a"), num("1")), list(sym("a"), num("2"))), sym("a")), list(sym("*"), sym("x"), sym("y")), list(sym("-")), list(sym("-"), num("3")), list(sym("x"), sym("f2")), list(sym("f2"), sym("x"), sym("x")),
	}
	return l[r.Intn(len(l))]
}

// spoil is x with some part of it made wrong: another one in its place, one taken away, or one more.
func spoil(r *rand.Rand, x api.Sexp) api.Sexp {
	if !x.List || len(x.L) == 0 || r.Intn(6) == 0 {
		return junk(r)
	}
	x.L = slices.Clone(x.L)
	i := r.Intn(len(x.L))
	switch r.Intn(8) {
	case 0:
		x.L = slices.Delete(x.L, i, i+1)
	case 1:
		x.L = slices.Insert(x.L, i, junk(r))
	case 2:
		j := r.Intn(len(x.L))
		x.L[i], x.L[j] = x.L[j], x.L[i]
	default:
		x.L[i] = spoil(r, x.L[i])
	}
	return x
}

// spoilDecls is declarations of which some are wrong, in another place, or of another name.
func spoilDecls(r *rand.Rand, l []api.Decl) []api.Decl {
	l = slices.Clone(l)
	names := []string{"x", "p", "s", "a", "f0", "f1", "f2", "f5", "z", "and", "true", "let", "str.x", ""}
	for range r.Intn(4) {
		d := &l[r.Intn(len(l))]
		switch r.Intn(7) {
		case 0:
			d.Name = names[r.Intn(len(names))]
		case 1:
			d.Macro = !d.Macro
		case 2:
			d.Sort = r.Intn(5)
		case 3:
			d.Params = append(slices.Clone(d.Params), api.Param{Name: names[r.Intn(len(names))], Sort: r.Intn(5)})
		case 4:
			d.Body = spoil(r, d.Body)
		case 5:
			other := &l[r.Intn(len(l))]
			*d, *other = *other, *d
		default:
			d.Params = nil
		}
	}
	return l
}

// wantOften complains of each error that chance has brought less often than that.
func wantOften(t *testing.T, told, least map[api.Errno]int) {
	t.Helper()
	for e, n := range least {
		if told[e] < n {
			t.Errorf("error %d was told no more than %d times", e, told[e])
		}
	}
}

// Any s-expressions and declarations, right or wrong, are as plain tells them.
func TestP102ByChance(t *testing.T) {
	told := map[api.Errno]int{}
	for seed := range 6000 {
		r := rand.New(rand.NewSource(int64(seed)))
		l, m := world(t, r)
		if r.Intn(2) == 0 {
			l = spoilDecls(r, l)
		}
		b, other := &term.Bank{}, &term.Bank{}
		for range 3 {
			x := m.term(1+r.Intn(3), 4)
			for range r.Intn(3) {
				x = spoil(r, x)
			}
			told[wantPlain(t, b, other, l, x)]++
		}
		if t.Failed() {
			t.Fatalf("seed %d", seed)
		}
	}
	wantOften(t, told, map[api.Errno]int{api.OK: 5000, api.ErrArg: 500, api.ErrThere: 50, api.ErrSort: 300, api.ErrName: 500, api.ErrOp: 500})
}

// So is what Check tells of functions.
func TestP103ByChance(t *testing.T) {
	told := map[api.Errno]int{}
	for seed := range 6000 {
		r := rand.New(rand.NewSource(int64(seed)))
		l, _ := world(t, r)
		l = spoilDecls(r, l)
		for i, d := range l {
			e := build.Check(l[:i], d)
			if want := check(l[:i], d); e != want {
				t.Fatalf("seed %d, %s: error %d, not %d", seed, shown(d.Body), e, want)
			}
			told[e]++
		}
	}
	wantOften(t, told, map[api.Errno]int{api.OK: 5000, api.ErrArg: 500, api.ErrThere: 50, api.ErrSort: 500, api.ErrName: 100, api.ErrOp: 50})
}

// In a bank that has but little room, or none, all is as plain tells it, too.
func TestP102ByChanceInFullBanks(t *testing.T) {
	told := map[api.Errno]int{}
	for room := range 8 {
		r := rand.New(rand.NewSource(int64(room)))
		l, m := world(t, r)
		b, other := fullBank(t, room), fullBank(t, room)
		for range 25 {
			x := m.term(1+r.Intn(3), 3)
			told[wantPlainAtEnd(t, b, other, l, x)]++
		}
	}
	wantOften(t, told, map[api.Errno]int{api.OK: 5, api.ErrLong: 50})
}
