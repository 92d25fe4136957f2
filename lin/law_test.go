package lin_test

import (
	"math/rand"
	"slices"
	"testing"

	"gudgeon/api"
	"gudgeon/lin"
	"gudgeon/whole"
)

// wantOne complains if two numbers are not one.
func wantOne(t *testing.T, what string, a, b api.Whole) {
	t.Helper()
	if whole.Cmp(a, b) != 0 || !isOwn(a) || !isOwn(b) {
		t.Errorf("%s: %s and %s", some(what), whole.Text(a), whole.Text(b))
	}
}

// instead is the assignment l, but that v has the number n.
func instead(l []api.Mono, v int, n api.Whole) []api.Mono {
	return append([]api.Mono{{V: v, K: n}}, l...)
}

// Sums are reckoned as their values are, under any assignment.
func TestP134Values(t *testing.T) {
	r := rand.New(rand.NewSource(3))
	for range 20000 {
		a, b, k, v, l := someSum(r), someSum(r), someNum(r), variables[r.Intn(len(variables))], someMonos(r, 20)
		x, y := lin.Value(a, l), lin.Value(b, l)
		what := said(a).text() + " and " + said(b).text()
		wantOne(t, "Norm: "+what, lin.Value(lin.Norm(a), l), x)
		wantOne(t, "Of: "+what, lin.Value(lin.Of(k), l), whole.Norm(k))
		wantNum(t, "Var: "+what, lin.Value(lin.Var(v), l), given(l, v))
		wantOne(t, "Add: "+what, lin.Value(lin.Add(a, b), l), whole.Add(x, y))
		wantOne(t, "Scale: "+what, lin.Value(lin.Scale(a, k), l), whole.Mul(x, k))
		wantOne(t, "Put: "+what, lin.Value(lin.Put(a, v, b), l), lin.Value(a, instead(l, v, y)))
		next := whole.Add(lin.Value(lin.Var(v), l), whole.Of(1))
		wantOne(t, "At: "+what, lin.At(a, v), whole.Sub(lin.Value(a, instead(l, v, next)), x))
		if t.Failed() {
			return
		}
	}
}

// The same sum is told by the same list, whichever way it comes about.
func TestP134Orders(t *testing.T) {
	r := rand.New(rand.NewSource(4))
	one := func(what string, a, b api.Lin) {
		t.Helper()
		wantLin(t, what, a, b)
	}
	for range 5000 {
		a, b, c, k, n, v := someSum(r), someSum(r), someSum(r), someNum(r), someNum(r), variables[r.Intn(len(variables))]
		one("order", lin.Add(a, b), lin.Add(b, a))
		one("brackets", lin.Add(lin.Add(a, b), c), lin.Add(a, lin.Add(b, c)))
		one("taken away", lin.Add(lin.Add(a, b), lin.Scale(b, whole.Of(-1))), lin.Norm(a))
		one("less itself", lin.Add(a, lin.Scale(a, whole.Of(-1))), api.Lin{})
		one("twice", lin.Add(a, a), lin.Scale(a, whole.Of(2)))
		one("both often", lin.Scale(lin.Add(a, b), k), lin.Add(lin.Scale(a, k), lin.Scale(b, k)))
		one("often, and often", lin.Scale(lin.Scale(a, k), n), lin.Scale(a, whole.Mul(k, n)))
		one("itself in its place", lin.Put(a, v, lin.Var(v)), lin.Norm(a))
		one("in the place of one", lin.Put(lin.Var(v), v, a), lin.Norm(a))
		one("into both", lin.Put(lin.Add(a, b), v, c), lin.Add(lin.Put(a, v, c), lin.Put(b, v, c)))
		shuffled := api.Lin{C: a.C, V: slices.Clone(a.V)}
		r.Shuffle(len(shuffled.V), func(i, j int) { shuffled.V[i], shuffled.V[j] = shuffled.V[j], shuffled.V[i] })
		one("in another order", lin.Norm(shuffled), lin.Norm(a))
		if t.Failed() {
			return
		}
	}
}

// each calls f with all assignments of the variables 1 and 2 by numbers near 0.
func each(f func(l []api.Mono)) {
	for x := -7; x <= 7; x++ {
		for y := -7; y <= 7; y++ {
			f(monos(2, y, 1, x))
		}
	}
}

// wantSame complains if what Tight and Even tell of a is not the same, under l, as what is claimed.
func wantSame(t *testing.T, a api.Lin, l []api.Mono) {
	t.Helper()
	sort := whole.Sign(lin.Value(a, l))
	b, n := lin.Tight(a)
	if got := whole.Sign(lin.Value(b, l)); n == 0 && (got >= 0) != (sort >= 0) || n != 0 && (n > 0) != (sort >= 0) {
		t.Errorf("Tight of %s: %s and %d, under %v", said(a).text(), said(b).text(), n, l)
	}
	b, n = lin.Even(a)
	if got := whole.Sign(lin.Value(b, l)); (got == 0) != (sort == 0) || n != 0 && (n > 0) != (sort == 0) {
		t.Errorf("Even of %s: %s and %d, under %v", said(a).text(), said(b).text(), n, l)
	}
}

// What is told says the same as the claim: all small sums of two variables, under all small numbers.
func TestP134SmallClaims(t *testing.T) {
	for c := -9; c <= 9; c++ {
		for x := -6; x <= 6; x++ {
			for y := -6; y <= 6; y++ {
				a := of(c, 2, y, 1, x)
				each(func(l []api.Mono) { wantSame(t, a, l) })
				if t.Failed() {
					return
				}
			}
		}
	}
}

// And any sums, under any numbers, many of which make them 0, or nearly so.
func TestP134AnyClaims(t *testing.T) {
	r := rand.New(rand.NewSource(5))
	for range 10000 {
		a := someClaim(r)
		for range 4 {
			l := someMonos(r, 20)
			wantSame(t, a, l)
			a.C = whole.Sub(a.C, lin.Value(a, l))
			wantSame(t, a, l)
			a.C = whole.Add(a.C, whole.Of(r.Intn(7)-3))
			wantSame(t, a, l)
		}
		if t.Failed() {
			return
		}
	}
}

// What Tight and Even have told, they leave as it is.
func TestP134ToldOnce(t *testing.T) {
	r := rand.New(rand.NewSource(6))
	for range 10000 {
		a := someClaim(r)
		b, n := lin.Tight(a)
		c, m := lin.Tight(b)
		wantLin(t, "Tight of "+said(a).text(), c, b)
		d, i := lin.Even(a)
		e, j := lin.Even(d)
		wantLin(t, "Even of "+said(a).text(), e, d)
		if n != m || i != j {
			t.Errorf("%s: %d, %d and %d, %d", said(a).text(), n, m, i, j)
		}
		// The contrary of it all is 0 when it is; of Even's two sides one is told.
		f, k := lin.Even(lin.Scale(a, whole.Of(-1)))
		if k != i {
			t.Errorf("%s: %d, and of the contrary %d", said(a).text(), i, k)
		}
		if k == 0 {
			wantLin(t, "Even of the contrary of "+said(a).text(), f, d)
		}
		if t.Failed() {
			return
		}
	}
}
