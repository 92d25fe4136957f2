package lin_test

import (
	"math"
	"slices"
	"testing"

	"gudgeon/api"
	"gudgeon/whole"
)

// odd is sums of which a caller may think that no one would hand them in.
func odd() []api.Lin {
	wide := api.Whole{Neg: true, N: make([]uint32, 3000)}
	high := api.Whole{Neg: true, N: append(make([]uint32, 500), 1, 0, 0)}
	out := []api.Lin{{}, {V: []api.Mono{}}, {C: wide}, {C: high}, {V: make([]api.Mono, 1000)}, {C: wide, V: []api.Mono{{K: wide}}}, {C: high, V: []api.Mono{{V: math.MinInt, K: high}, {V: math.MaxInt, K: wide}, {V: math.MinInt, K: high}}}}
	for _, z := range zeros() {
		out = append(out, api.Lin{C: z}, api.Lin{C: z, V: []api.Mono{{K: z}, {V: -1, K: z}, {V: math.MaxInt, K: z}, {K: z}}})
	}
	for _, v := range variables {
		out = append(out, of(v, v, v), of(v, v, -1, v-1, 1, v+1, 1, -v, v))
	}
	return out
}

// Whatever is handed in, nothing panics, and what is answered is in its own form.
func TestP1NothingPanics(t *testing.T) {
	var ks []api.Whole
	for _, a := range odd() {
		ks = append(ks, a.C)
	}
	for i, a := range odd() {
		for j, b := range odd() {
			for _, c := range calls() {
				got := c.of(a, b, ks[(i+j)%len(ks)], variables[(i+2*j)%len(variables)])
				if f := form(got); f != "" {
					t.Errorf("%s of %s and %s: %s", c.name, said(a).text(), said(b).text(), f)
				}
			}
		}
	}
	for _, a := range odd() {
		wantTight(t, "odd", a)
		wantEven(t, "odd", a)
	}
}

// A sum of very many places, all of one variable, of many, and of ones that fall.
func TestP1LongSums(t *testing.T) {
	const many = 100000
	one, others, fall := api.Lin{}, api.Lin{}, api.Lin{}
	for i := range many {
		one.V = append(one.V, mono(1, 2*(i%3)-2))
		others.V = append(others.V, mono((i*7919)%many, 6))
		fall.V = append(fall.V, mono(-i, -4))
	}
	for _, a := range []api.Lin{one, others, fall, {C: whole.Of(3), V: slices.Concat(one.V, others.V, fall.V)}} {
		wantTight(t, "many", a)
		wantEven(t, "many", a)
		for _, c := range calls() {
			if f := form(c.of(a, fall, whole.Of(-3), 1)); f != "" {
				t.Errorf("%s: %s", c.name, f)
			}
		}
	}
}
