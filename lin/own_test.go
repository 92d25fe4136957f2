package lin_test

import (
	"math/rand"
	"reflect"
	"slices"
	"testing"

	"gudgeon/api"
	"gudgeon/lin"
	"gudgeon/whole"
)

// call is a call's name, and all sums and numbers that it answers, as one list of sums.
type call struct {
	name string
	of   func(a, b api.Lin, k api.Whole, v int) api.Lin
}

// calls is all calls that chapter 13 lists; a number is told as the C of a sum.
func calls() []call {
	return []call{
		{"Norm", func(a, b api.Lin, k api.Whole, v int) api.Lin { return lin.Norm(a) }},
		{"Of", func(a, b api.Lin, k api.Whole, v int) api.Lin { return lin.Of(k) }},
		{"Var", func(a, b api.Lin, k api.Whole, v int) api.Lin { return lin.Var(v) }},
		{"At", func(a, b api.Lin, k api.Whole, v int) api.Lin { return api.Lin{C: lin.At(a, v)} }},
		{"Add", func(a, b api.Lin, k api.Whole, v int) api.Lin { return lin.Add(a, b) }},
		{"Add of one", func(a, b api.Lin, k api.Whole, v int) api.Lin { return lin.Add(a, a) }},
		{"Scale", func(a, b api.Lin, k api.Whole, v int) api.Lin { return lin.Scale(a, k) }},
		{"Put", func(a, b api.Lin, k api.Whole, v int) api.Lin { return lin.Put(a, v, b) }},
		{"Put of one", func(a, b api.Lin, k api.Whole, v int) api.Lin { return lin.Put(a, v, a) }},
		{"Value", func(a, b api.Lin, k api.Whole, v int) api.Lin { return api.Lin{C: lin.Value(a, b.V)} }},
		{"Value by itself", func(a, b api.Lin, k api.Whole, v int) api.Lin { return api.Lin{C: lin.Value(a, a.V)} }},
		{"Tight", func(a, b api.Lin, k api.Whole, v int) api.Lin { c, _ := lin.Tight(a); return c }},
		{"Even", func(a, b api.Lin, k api.Whole, v int) api.Lin { c, _ := lin.Even(a); return c }},
	}
}

// roomy is a number whose list has room behind it, in which something stands.
func roomy(n api.Whole) api.Whole {
	return api.Whole{Neg: n.Neg, N: append(slices.Clone(n.N), 99, 98)[:len(n.N)]}
}

// roomySum is a sum all of whose lists have room behind them, in which something stands.
func roomySum(a api.Lin) api.Lin {
	out := api.Lin{C: roomy(a.C)}
	for _, m := range a.V {
		out.V = append(out.V, api.Mono{V: m.V, K: roomy(m.K)})
	}
	n := len(out.V)
	out.V = append(out.V, mono(77, 78), mono(79, 80))[:n]
	return out
}

// all is what a sum has, and has room for.
func all(a api.Lin) api.Lin {
	out := api.Lin{C: api.Whole{Neg: a.C.Neg, N: slices.Clone(a.C.N[:cap(a.C.N)])}, V: slices.Clone(a.V[:cap(a.V)])}
	for i, m := range out.V {
		out.V[i].K.N = slices.Clone(m.K.N[:cap(m.K.N)])
	}
	return out
}

// spoilNum writes over all that a number's list has room for.
func spoilNum(n api.Whole) {
	l := n.N[:cap(n.N)]
	for i := range l {
		l[i] = 0xdead
	}
}

// spoil writes over all that a sum has room for.
func spoil(a api.Lin) {
	spoilNum(a.C)
	l := a.V[:cap(a.V)]
	for i := range l {
		spoilNum(l[i].K)
		l[i] = mono(-12345, -12345)
	}
}

// ownSums is sums by chance, and some in their own form, of many digits, of which nothing is to be reckoned.
func ownSums() []api.Lin {
	l := []api.Lin{{}, of(0), of(5), of(-5), of(0, 1, 1), of(3, 1, 2, 2, 3), of(6, 1, -2, 2, 4), of(7, 2, 4, 1, -6), of(1, 1, 2, 1, -2), {C: long(50), V: []api.Mono{{V: 1, K: long(60)}, {V: 3, K: whole.Neg(long(70))}}}}
	for _, c := range faulty() {
		l = append(l, c[0])
	}
	r := rand.New(rand.NewSource(7))
	for range 40 {
		l = append(l, someClaim(r))
	}
	return l
}

// numbers is by how much sums are scaled, and what Of is made of.
func numbers() []api.Whole {
	return []api.Whole{{}, whole.Of(1), whole.Of(-1), whole.Of(6), noughts(whole.Of(1)), long(40)}
}

// What is handed in stays as it was, and what is answered does not change with it, nor it with that.
func TestR3WhatIsHandedIn(t *testing.T) {
	l, ks := ownSums(), numbers()
	for i, x := range l {
		y := l[(i*7+3)%len(l)]
		for j, z := range ks {
			v := variables[(i+j)%len(variables)]
			for _, c := range calls() {
				a, b, k := roomySum(x), roomySum(y), roomy(z)
				was := []api.Lin{all(a), all(b), all(api.Lin{C: k})}
				got := c.of(a, b, k, v)
				again := c.of(a, b, k, v)
				told := all(got)
				if !reflect.DeepEqual(plain(got), plain(again)) {
					t.Fatalf("%s of %s: another answer the next time", c.name, said(x).text())
				}
				spoil(again)
				if !reflect.DeepEqual([]api.Lin{all(a), all(b), all(api.Lin{C: k})}, was) {
					t.Fatalf("%s of %s: what was handed in was changed", c.name, said(x).text())
				}
				spoil(a)
				spoil(b)
				spoilNum(k)
				if !reflect.DeepEqual(all(got), told) {
					t.Fatalf("%s of %s: what was answered changes with other things", c.name, said(x).text())
				}
			}
		}
	}
}

// plain is a sum whose lists have no room behind them, and are nil if they are empty.
func plain(a api.Lin) api.Lin {
	bare := func(n api.Whole) api.Whole { return api.Whole{Neg: n.Neg, N: append([]uint32(nil), n.N...)} }
	out := api.Lin{C: bare(a.C)}
	for _, m := range a.V {
		out.V = append(out.V, api.Mono{V: m.V, K: bare(m.K)})
	}
	return out
}

// No two lists of one answer share their room.
func TestR3NoListsShare(t *testing.T) {
	for i, x := range ownSums() {
		for _, k := range numbers() {
			for _, c := range calls() {
				v := variables[i%len(variables)]
				got := c.of(x, x, k, v)
				was := plain(got)
				for j := range got.V {
					spoilNum(got.V[j].K)
					was.V[j].K = plain(api.Lin{C: got.V[j].K}).C
					if !reflect.DeepEqual(plain(got), was) {
						t.Fatalf("%s of %s: two lists of it are one", c.name, said(x).text())
					}
				}
				spoilNum(got.C)
				was.C = plain(got).C
				if !reflect.DeepEqual(plain(got), was) {
					t.Fatalf("%s of %s: C is a list of its variables", c.name, said(x).text())
				}
			}
		}
	}
}

// What was handed in twice, or whose lists are parts of one another, is reckoned as if it were not.
func TestR3ListsHandedInTwice(t *testing.T) {
	n := []uint32{6, 7, 8, 9}
	k := func(i, j int) api.Whole { return api.Whole{N: n[i:j]} }
	a := api.Lin{C: k(0, 4), V: []api.Mono{{V: 3, K: k(0, 2)}, {V: 1, K: k(1, 3)}, {V: 3, K: k(0, 3)}, {V: 2, K: k(0, 4)}}}
	apart := plain(a)
	part := api.Lin{C: a.C, V: a.V[1:3]}
	for _, c := range calls() {
		got := c.of(a, part, a.C, 3)
		wantSum(t, c.name, got, said(c.of(apart, plain(part), plain(a).C, 3)))
		if !slices.Equal(n, []uint32{6, 7, 8, 9}) || !reflect.DeepEqual(plain(a), apart) {
			t.Fatalf("%s: what was handed in was changed", c.name)
		}
	}
}
