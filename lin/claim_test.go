package lin_test

import (
	"math"
	"math/big"
	"math/rand"
	"testing"

	"gudgeon/api"
	"gudgeon/lin"
	"gudgeon/whole"
)

// claim is a sum, and what Tight or Even is to tell of it.
type claim struct {
	a, out api.Lin
	n      int
}

// wantClaims complains if call tells anything else of those claims.
func wantClaims(t *testing.T, call func(api.Lin) (api.Lin, int), l []claim) {
	t.Helper()
	for _, c := range l {
		what := said(c.a).text()
		got, n := call(c.a)
		wantLin(t, what, got, c.out)
		if n != c.n {
			t.Errorf("%s: %d, not %d", what, n, c.n)
		}
	}
}

func TestP132Tight(t *testing.T) {
	wantClaims(t, lin.Tight, []claim{
		{of(7, 1, 4, 2, 6), of(3, 1, 2, 2, 3), 0},
		// Without variables.
		{of(0), of(0), 1},
		{of(1), of(1), 1},
		{of(-1), of(-1), -1},
		{of(12), of(12), 1},
		{of(-12), of(-12), -1},
		{of(math.MinInt), of(math.MinInt), -1},
		// With what leaves no variable.
		{of(0, 1, 2, 1, -2), of(0), 1},
		{of(4, 1, 2, 2, 3, 1, -2, 2, -3), of(4), 1},
		{of(-4, 1, 2, 2, 0, 1, -2), of(-4), -1},
		{of(-4, 1, 0), of(-4), -1},
		{of(0, 1, 0, 2, 0), of(0), 1},
		// g is 1.
		{of(7, 1, 1), of(7, 1, 1), 0},
		{of(7, 1, -1), of(7, 1, -1), 0},
		{of(-7, 1, 4, 2, 7), of(-7, 1, 4, 2, 7), 0},
		{of(30, 1, 6, 2, 10, 3, 15), of(30, 1, 6, 2, 10, 3, 15), 0},
		// g divides C.
		{of(6, 1, 2), of(3, 1, 1), 0},
		{of(-6, 1, 2), of(-3, 1, 1), 0},
		{of(0, 1, 2), of(0, 1, 1), 0},
		{of(-9, 1, -3, 2, 6), of(-3, 1, -1, 2, 2), 0},
		// g does not: below nought, too, it is rounded down.
		{of(7, 1, 2), of(3, 1, 1), 0},
		{of(-7, 1, 2), of(-4, 1, 1), 0},
		{of(1, 1, 5), of(0, 1, 1), 0},
		{of(-1, 1, 5), of(-1, 1, 1), 0},
		{of(-5, 1, 5), of(-1, 1, 1), 0},
		{of(-6, 1, 5), of(-2, 1, 1), 0},
		{of(4, 1, 5), of(0, 1, 1), 0},
		{of(-4, 1, -5), of(-1, 1, -1), 0},
		{of(4, 1, -5), of(0, 1, -1), 0},
		{of(-1, 1, -100, 2, -250), of(-1, 1, -2, 2, -5), 0},
		// One variable alone, wherever it is.
		{of(11, 0, 7), of(1, 0, 1), 0},
		{of(11, -3, -7), of(1, -3, -1), 0},
		{of(-11, math.MinInt, 7), of(-2, math.MinInt, 1), 0},
		{of(0, math.MaxInt, math.MinInt), of(0, math.MaxInt, -1), 0},
		{of(0, math.MaxInt, 6, math.MinInt, 4), of(0, math.MinInt, 2, math.MaxInt, 3), 0},
		// The first K, of what is put in order, below 0 or above: it stays on its side.
		{of(4, 1, -2, 2, 4), of(2, 1, -1, 2, 2), 0},
		{of(4, 2, 4, 1, -2), of(2, 1, -1, 2, 2), 0},
		{of(4, 1, -2, 2, -4), of(2, 1, -1, 2, -2), 0},
		// It is of what is put together that g is told.
		{of(5, 1, 1, 2, 4, 1, 1), of(2, 1, 1, 2, 2), 0},
		{of(5, 3, 1, 2, 4, 3, -1), of(1, 2, 1), 0},
		{of(-5, 3, 0, 2, 4), of(-2, 2, 1), 0},
		{api.Lin{C: noughts(whole.Of(-5)), V: []api.Mono{{V: 2, K: noughts(whole.Of(-4))}, {V: 1, K: noughts(whole.Of(6))}, {V: 0, K: api.Whole{Neg: true}}}}, of(-3, 1, 3, 2, -2), 0},
	})
	for what, c := range faulty() {
		wantTight(t, what, c[0])
	}
}

func TestP133Even(t *testing.T) {
	wantClaims(t, lin.Even, []claim{
		{of(6, 1, -2, 2, 4), of(-3, 1, 1, 2, -2), 0},
		{of(1, 1, 2), of(1, 1, 2), -1},
		// Without variables.
		{of(0), of(0), 1},
		{of(1), of(1), -1},
		{of(-1), of(-1), -1},
		{of(12), of(12), -1},
		{of(-12), of(-12), -1},
		{of(math.MinInt), of(math.MinInt), -1},
		// With what leaves no variable.
		{of(0, 1, 2, 1, -2), of(0), 1},
		{of(4, 1, 2, 2, 3, 1, -2, 2, -3), of(4), -1},
		{of(-4, 1, 2, 2, 0, 1, -2), of(-4), -1},
		{of(-4, 1, 0), of(-4), -1},
		{of(0, 1, 0, 2, 0), of(0), 1},
		// g is 1.
		{of(7, 1, 1), of(7, 1, 1), 0},
		{of(7, 1, -1), of(-7, 1, 1), 0},
		{of(-7, 1, 4, 2, 7), of(-7, 1, 4, 2, 7), 0},
		{of(-7, 1, -4, 2, 7), of(7, 1, 4, 2, -7), 0},
		{of(7, 1, 6, 2, 10, 3, 15), of(7, 1, 6, 2, 10, 3, 15), 0},
		// g divides C.
		{of(6, 1, 2), of(3, 1, 1), 0},
		{of(-6, 1, 2), of(-3, 1, 1), 0},
		{of(0, 1, 2), of(0, 1, 1), 0},
		{of(0, 1, -2), of(0, 1, 1), 0},
		{of(-9, 1, -3, 2, 6), of(3, 1, 1, 2, -2), 0},
		{of(-9, 1, 3, 2, -6), of(-3, 1, 1, 2, -2), 0},
		{of(-9, 1, -3, 2, -6), of(3, 1, 1, 2, 2), 0},
		// g does not: what is told is the sum as it is, on whatever side it begins.
		{of(-1, 1, 2), of(-1, 1, 2), -1},
		{of(1, 1, -2), of(1, 1, -2), -1},
		{of(7, 1, 4, 2, 6), of(7, 1, 4, 2, 6), -1},
		{of(-7, 2, 6, 1, -4), of(-7, 1, -4, 2, 6), -1},
		{of(4, 1, 5), of(4, 1, 5), -1},
		{of(-6, 1, -5), of(-6, 1, -5), -1},
		{of(10, 1, 6, 2, 15), of(10, 1, 6, 2, 15), -1},
		// One variable alone, wherever it is.
		{of(14, 0, 7), of(2, 0, 1), 0},
		{of(14, -3, -7), of(-2, -3, 1), 0},
		{of(-14, math.MinInt, 7), of(-2, math.MinInt, 1), 0},
		{of(0, math.MaxInt, math.MinInt), of(0, math.MaxInt, 1), 0},
		{of(2, math.MaxInt, 6, math.MinInt, -4), of(-1, math.MinInt, 2, math.MaxInt, -3), 0},
		// The first K is that of what is put in order, and together.
		{of(4, 2, 4, 1, -2), of(-2, 1, 1, 2, -2), 0},
		{of(4, 2, -4, 1, 2), of(2, 1, 1, 2, -2), 0},
		{of(4, 1, -5, 2, 4, 1, 7), of(2, 1, 1, 2, 2), 0},
		{of(4, 1, -5, 2, 4, 1, 5, 3, 2), of(2, 2, 2, 3, 1), 0},
		{of(4, 1, 5, 2, -4, 1, -5, 3, 2), of(-2, 2, 2, 3, -1), 0},
		// And so is g.
		{of(6, 1, 1, 2, 4, 1, 1), of(3, 1, 1, 2, 2), 0},
		{of(5, 1, 1, 2, 4, 1, 1), of(5, 1, 2, 2, 4), -1},
		{of(8, 3, 1, 2, 4, 3, -1), of(2, 2, 1), 0},
		{of(6, 3, 0, 2, 4), of(6, 2, 4), -1},
		{api.Lin{C: noughts(whole.Of(-6)), V: []api.Mono{{V: 2, K: noughts(whole.Of(4))}, {V: 1, K: noughts(whole.Of(-6))}, {V: 0, K: api.Whole{Neg: true}}}}, of(3, 1, 3, 2, -2), 0},
		{api.Lin{C: noughts(whole.Of(-5)), V: []api.Mono{{V: 2, K: noughts(whole.Of(4))}, {V: 1, K: noughts(whole.Of(-6))}, {V: 0, K: api.Whole{Neg: true}}}}, of(-5, 1, -6, 2, 4), -1},
	})
	for what, c := range faulty() {
		wantEven(t, what, c[0])
	}
}

// Zeros in all forms, by themselves, as C, and as K.
func TestP132P133Zeros(t *testing.T) {
	for _, z := range zeros() {
		for _, y := range zeros() {
			a := api.Lin{C: z, V: []api.Mono{{V: 5, K: y}, {V: 5, K: z}, {V: 4, K: y}}}
			for _, call := range []func(api.Lin) (api.Lin, int){lin.Tight, lin.Even} {
				got, n := call(a)
				wantLin(t, "zeros", got, api.Lin{})
				if n != 1 {
					t.Errorf("zeros: %d", n)
				}
			}
			wantClaims(t, lin.Tight, []claim{{lin.Add(a, of(0, 5, 3)), of(0, 5, 1), 0}})
			wantClaims(t, lin.Even, []claim{{lin.Add(a, of(0, 5, -3)), of(0, 5, 1), 0}})
		}
	}
}

func TestP132P133GreatNumbers(t *testing.T) {
	g, h := long(300), num("9000000000000000000000000000000000000000000000001")
	five := whole.Of(5)
	times := func(n api.Whole, k int) api.Whole { return whole.Mul(n, whole.Of(k)) }
	a := api.Lin{C: times(g, -3), V: []api.Mono{{V: 2, K: times(g, 10)}, {V: 1, K: times(g, -15)}}}
	less := api.Lin{C: whole.Sub(a.C, whole.Of(1)), V: a.V}
	more := api.Lin{C: whole.Add(a.C, whole.Of(1)), V: a.V}
	fifth := api.Lin{C: times(a.C, 5), V: a.V}
	wantClaims(t, lin.Tight, []claim{
		{a, of(-1, 1, -3, 2, 2), 0}, {less, of(-1, 1, -3, 2, 2), 0}, {fifth, of(-3, 1, -3, 2, 2), 0},
		{api.Lin{C: whole.Neg(g)}, api.Lin{C: whole.Neg(g)}, -1}, {api.Lin{C: g}, api.Lin{C: g}, 1},
		{api.Lin{C: g, V: []api.Mono{{V: 1, K: h}, {V: 2, K: five}}}, api.Lin{C: g, V: []api.Mono{{V: 1, K: h}, {V: 2, K: five}}}, 0},
		{api.Lin{C: whole.Of(-1), V: []api.Mono{{V: 1, K: g}}}, of(-1, 1, 1), 0},
		{api.Lin{C: whole.Of(1), V: []api.Mono{{V: 1, K: g}}}, of(0, 1, 1), 0},
	})
	wantClaims(t, lin.Even, []claim{
		{fifth, of(3, 1, 3, 2, -2), 0}, {a, lin.Norm(a), -1}, {less, lin.Norm(less), -1}, {more, lin.Norm(more), -1},
		{api.Lin{C: whole.Neg(g)}, api.Lin{C: whole.Neg(g)}, -1}, {api.Lin{C: g}, api.Lin{C: g}, -1},
		{api.Lin{C: g, V: []api.Mono{{V: 1, K: whole.Neg(h)}, {V: 2, K: five}}}, api.Lin{C: whole.Neg(g), V: []api.Mono{{V: 1, K: h}, {V: 2, K: whole.Neg(five)}}}, 0},
		{api.Lin{C: whole.Of(-1), V: []api.Mono{{V: 1, K: g}}}, api.Lin{C: whole.Of(-1), V: []api.Mono{{V: 1, K: g}}}, -1},
	})
}

// common is the greatest number that divides how often each variable of s stands there.
func (s sum) common() *big.Int {
	g := new(big.Int)
	for _, k := range s.k {
		g.GCD(nil, nil, g, new(big.Int).Abs(k))
	}
	return g
}

// by is s with each number divided by g, which is above 0, and rounded down.
func (s sum) by(g *big.Int) sum {
	out := sum{new(big.Int).Div(s.c, g), map[int]*big.Int{}}
	for v, k := range s.k {
		out.k[v] = new(big.Int).Div(k, g)
	}
	return out
}

// sign is how it is told that a claim is so, or is not.
func sign(so bool) int {
	if so {
		return 1
	}
	return -1
}

// wantTight holds Tight against what is told anew.
func wantTight(t *testing.T, what string, a api.Lin) {
	t.Helper()
	s := said(a)
	want, n := s, sign(s.c.Sign() >= 0)
	if len(s.k) > 0 {
		want, n = s.by(s.common()), 0
	}
	got, m := lin.Tight(a)
	wantSum(t, what+": Tight of "+s.text(), got, want)
	if m != n {
		t.Errorf("%s: Tight of %s: %d, not %d", what, s.text(), m, n)
	}
}

// wantEven holds Even against what is told anew.
func wantEven(t *testing.T, what string, a api.Lin) {
	t.Helper()
	s := said(a)
	want, n := s, sign(s.c.Sign() == 0)
	if len(s.k) > 0 {
		n = -1
		if g := s.common(); new(big.Int).Mod(s.c, g).Sign() == 0 {
			want, n = s.by(g), 0
			if s.k[s.vars()[0]].Sign() < 0 {
				want = want.times(big.NewInt(-1))
			}
		}
	}
	got, m := lin.Even(a)
	wantSum(t, what+": Even of "+s.text(), got, want)
	if m != n {
		t.Errorf("%s: Even of %s: %d, not %d", what, s.text(), m, n)
	}
}

// someClaim is some sum in some form, now and then all of it so many times, and with a C of its own.
func someClaim(r *rand.Rand) api.Lin {
	a := someSum(r)
	if r.Intn(2) == 0 {
		a = api.Lin{C: someNum(r), V: someMonos(r, 3)}
	}
	if r.Intn(2) == 0 {
		k := someNum(r)
		a.C = whole.Mul(a.C, k)
		for i := range a.V {
			a.V[i].K = whole.Mul(a.V[i].K, k)
		}
		if r.Intn(3) == 0 {
			a.C = someNum(r)
		}
	}
	return a
}

func TestP132P133AnyClaims(t *testing.T) {
	r := rand.New(rand.NewSource(2))
	told := map[int]int{}
	for range 30000 {
		a := someClaim(r)
		wantTight(t, "any", a)
		wantEven(t, "any", a)
		_, n := lin.Even(a)
		told[n]++
		if t.Failed() {
			return
		}
	}
	for n := -1; n <= 1; n++ {
		if told[n] < 100 {
			t.Errorf("Even tells %d of only %d claims", n, told[n])
		}
	}
}
