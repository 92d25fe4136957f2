package lin_test

import (
	"maps"
	"math"
	"math/big"
	"math/rand"
	"slices"
	"strings"
	"testing"

	"gudgeon/api"
	"gudgeon/whole"
)

// of is the sum of c, and of variables, each with how often it stands there: as it is told, in no other form.
func of(c int, l ...int) api.Lin {
	a := api.Lin{C: whole.Of(c)}
	for i := 0; i < len(l); i += 2 {
		a.V = append(a.V, mono(l[i], l[i+1]))
	}
	return a
}

// mono is the variable v, k times.
func mono(v, k int) api.Mono { return api.Mono{V: v, K: whole.Of(k)} }

// monos is an assignment, or what a sum has: variables, each with its number.
func monos(l ...int) []api.Mono { return of(0, l...).V }

// num is the number that digits, with a - ahead or not, say.
func num(digits string) api.Whole {
	n, e := whole.Parse(digits)
	if e != api.OK {
		panic(digits + " is no number")
	}
	return n
}

// toBig is what a whole number says, reckoned without the program.
func toBig(a api.Whole) *big.Int {
	out := new(big.Int)
	for i := len(a.N) - 1; i >= 0; i-- {
		out.Lsh(out, 32).Or(out, big.NewInt(int64(a.N[i])))
	}
	if a.Neg {
		out.Neg(out)
	}
	return out
}

// isOwn tells whether a number is in its own form.
func isOwn(a api.Whole) bool {
	if len(a.N) == 0 {
		return !a.Neg
	}
	return a.N[len(a.N)-1] != 0
}

// zeros are all forms in which 0 comes in.
func zeros() []api.Whole {
	return []api.Whole{{}, {Neg: true}, {N: []uint32{}}, {N: []uint32{0}}, {Neg: true, N: []uint32{0}}, {Neg: true, N: []uint32{0, 0, 0}}}
}

// sum is a sum told anew: a number, and how often each variable stands there that stands there at all.
type sum struct {
	c *big.Int
	k map[int]*big.Int
}

// said is what a sum says, in whatever form it is.
func said(a api.Lin) sum {
	s := sum{toBig(a.C), map[int]*big.Int{}}
	for _, m := range a.V {
		s.add(m.V, toBig(m.K))
	}
	return s
}

// add adds the variable v, k times.
func (s sum) add(v int, k *big.Int) {
	n := new(big.Int).Set(k)
	if old := s.k[v]; old != nil {
		n.Add(n, old)
	}
	s.k[v] = n
	if n.Sign() == 0 {
		delete(s.k, v)
	}
}

// plus is s and k times o.
func (s sum) plus(o sum, k *big.Int) sum {
	out := sum{new(big.Int).Mul(o.c, k), maps.Clone(s.k)}
	out.c.Add(out.c, s.c)
	for v, n := range o.k {
		out.add(v, new(big.Int).Mul(n, k))
	}
	return out
}

// times is s, k times.
func (s sum) times(k *big.Int) sum { return sum{new(big.Int), map[int]*big.Int{}}.plus(s, k) }

// at is how often the variable v stands there.
func (s sum) at(v int) *big.Int {
	if n := s.k[v]; n != nil {
		return n
	}
	return new(big.Int)
}

// put is s with o in the place of v.
func (s sum) put(v int, o sum) sum {
	rest := sum{s.c, maps.Clone(s.k)}
	delete(rest.k, v)
	return rest.plus(o, s.at(v))
}

// value is what s is under the assignment l.
func (s sum) value(l []api.Mono) *big.Int {
	out := new(big.Int).Set(s.c)
	for v, k := range s.k {
		out.Add(out, new(big.Int).Mul(k, given(l, v)))
	}
	return out
}

// given is the number of v in the assignment l.
func given(l []api.Mono, v int) *big.Int {
	for _, m := range l {
		if m.V == v {
			return toBig(m.K)
		}
	}
	return new(big.Int)
}

// vars is the variables of s, rising.
func (s sum) vars() []int { return slices.Sorted(maps.Keys(s.k)) }

// text is s, to be read.
func (s sum) text() string {
	var l []string
	for _, v := range s.vars() {
		l = append(l, s.k[v].String()+" v"+big.NewInt(int64(v)).String())
	}
	return some(strings.Join(append(l, s.c.String()), " + "))
}

// some is no more of a text than can be read at a glance.
func some(s string) string {
	if len(s) > 300 {
		return s[:300] + ".."
	}
	return s
}

// form tells what keeps a sum from being in its own form; "" of one that is.
func form(a api.Lin) string {
	if !isOwn(a.C) {
		return "the number by itself is not in its own form"
	}
	for i, m := range a.V {
		switch {
		case i > 0 && a.V[i-1].V >= m.V:
			return "the variables do not rise"
		case !isOwn(m.K):
			return "how often a variable stands there is not in its own form"
		case len(m.K.N) == 0:
			return "a variable stands there 0 times"
		}
	}
	return ""
}

// wantSum complains if a sum is not s, in its own form.
func wantSum(t *testing.T, what string, got api.Lin, s sum) {
	t.Helper()
	if f := form(got); f != "" {
		t.Errorf("%s: %s: %v", some(what), f, got)
	}
	if g := said(got); g.c.Cmp(s.c) != 0 || !maps.EqualFunc(g.k, s.k, func(a, b *big.Int) bool { return a.Cmp(b) == 0 }) {
		t.Errorf("%s: %s, not %s", some(what), g.text(), s.text())
	}
}

// wantLin complains if a sum is not the one told, to the letter.
func wantLin(t *testing.T, what string, got, a api.Lin) {
	t.Helper()
	if f := form(a); f != "" {
		t.Fatalf("%s: what is asked for is not in its own form: %s", some(what), f)
	}
	wantSum(t, what, got, said(a))
}

// wantNum complains if a number is not x, in its own form.
func wantNum(t *testing.T, what string, got api.Whole, x *big.Int) {
	t.Helper()
	if !isOwn(got) || toBig(got).Cmp(x) != 0 {
		t.Errorf("%s: %v, not %s", some(what), got, some(x.String()))
	}
}

// wantInt complains if a number is not n, in its own form.
func wantInt(t *testing.T, what string, got api.Whole, n int) {
	t.Helper()
	wantNum(t, what, got, big.NewInt(int64(n)))
}

// variables are those of which sums by chance are made: some stand at the ends of what int holds.
var variables = []int{0, 1, 2, 3, -1, -2, 7, 1 << 40, -1 << 40, math.MaxInt, math.MaxInt - 1, math.MinInt, math.MinInt + 1}

// someNum is some number, now and then of many digits, or not in its own form.
func someNum(r *rand.Rand) api.Whole {
	switch r.Intn(8) {
	case 0:
		return zeros()[r.Intn(len(zeros()))]
	case 1:
		n := api.Whole{Neg: r.Intn(2) == 0, N: make([]uint32, r.Intn(6))}
		for i := range n.N {
			n.N[i] = r.Uint32()
		}
		return n
	case 2:
		n := whole.Of(r.Intn(21) - 10)
		n.N = append(n.N, 0, 0)
		return n
	case 3:
		return whole.Of(60 * (r.Intn(7) - 3))
	}
	return whole.Of(r.Intn(21) - 10)
}

// someMonos is up to most variables, in no order, some more than once, each with some number.
func someMonos(r *rand.Rand, most int) []api.Mono {
	l := make([]api.Mono, r.Intn(most+1))
	for i := range l {
		l[i] = api.Mono{V: variables[r.Intn(len(variables))], K: someNum(r)}
		// What was there is taken away again, whole or in part.
		if i > 0 && r.Intn(4) == 0 {
			l[i] = l[r.Intn(i)]
			l[i].K.Neg = !l[i].K.Neg
		}
	}
	return l
}

// someSum is some sum in some form.
func someSum(r *rand.Rand) api.Lin { return api.Lin{C: someNum(r), V: someMonos(r, 8)} }

// noughts is a number with noughts at its end.
func noughts(n api.Whole) api.Whole {
	return api.Whole{Neg: n.Neg, N: append(slices.Clone(n.N), 0, 0, 0)}
}

// long is a number of that many digits, all of them 7.
func long(digits int) api.Whole { return num(strings.Repeat("7", digits)) }
