package whole_test

import (
	"math"
	"math/big"
	"math/rand"
	"slices"
	"strings"
	"testing"

	"gudgeon/api"
	"gudgeon/nat"
	"gudgeon/whole"
)

// toBig is what a whole number says, reckoned without the package.
func toBig(a api.Whole) *big.Int {
	out := new(big.Int)
	for i := len(a.N) - 1; i >= 0; i-- {
		out.Lsh(out, 32).Or(out, big.NewInt(int64(a.N[i])))
	}
	if a.Neg {
		out.Neg(out)
	}
	return out
}

// isOwn tells whether a has the form of what is answered.
func isOwn(a api.Whole) bool {
	if len(a.N) == 0 {
		return !a.Neg
	}
	return a.N[len(a.N)-1] != 0
}

// want complains if got is another number than x, or has not the form of what is answered.
func want(t *testing.T, what string, got api.Whole, x *big.Int) {
	t.Helper()
	if !isOwn(got) || toBig(got).Cmp(x) != 0 {
		t.Errorf("%s: %v, not %s", what, got, x)
	}
}

// isZero tells whether a is as Go makes a whole number, but for an empty list.
func isZero(a api.Whole) bool { return !a.Neg && len(a.N) == 0 }

// edges are limbs at which carrying, borrowing and comparing go wrong, if they do.
var edges = []uint32{0, 1, 2, 7, 1 << 31, 1<<32 - 1}

// numbers are the edges, of up to three limbs, with and without Neg, some with noughts behind them.
func numbers() []api.Whole {
	limbs := [][]uint32{nil, {}, {0, 0, 0}, {7, 0, 0}, {0, 5, 0}, {0, 0, 1}, {1, 0, 1<<32 - 1, 0}}
	for _, x := range edges {
		limbs = append(limbs, []uint32{x})
		for _, y := range edges {
			limbs = append(limbs, []uint32{x, y})
		}
	}
	var out []api.Whole
	for _, n := range limbs {
		out = append(out, api.Whole{N: n}, api.Whole{Neg: true, N: slices.Clone(n)})
	}
	return out
}

// zeros are all forms in which 0 comes in.
func zeros() []api.Whole {
	return []api.Whole{{}, {Neg: true}, {N: []uint32{}}, {N: []uint32{0}}, {Neg: true, N: []uint32{0}}, {Neg: true, N: []uint32{0, 0, 0}}}
}

// long is some whole number of up to n limbs, by a rule that has no end.
func long(r *rand.Rand, n int) api.Whole {
	out := api.Whole{Neg: r.Intn(2) == 0, N: make([]uint32, r.Intn(n+1))}
	for i := range out.N {
		out.N[i] = r.Uint32()
		if r.Intn(3) == 0 {
			out.N[i] = edges[r.Intn(len(edges))]
		}
	}
	return out
}

func TestP21NormOf(t *testing.T) {
	for _, a := range numbers() {
		want(t, "Norm", whole.Norm(a), toBig(a))
	}
	for _, a := range zeros() {
		if b := whole.Norm(a); !isZero(b) {
			t.Errorf("Norm %v: %v", a, b)
		}
	}
	for _, n := range []int{
		0, 1, -1, 7, -7, 1<<32 - 1, 1 << 32, -1 << 32, 1<<32 + 5, -1<<32 - 5,
		1<<62 - 1, 1 << 62, 1<<62 + 1, -1<<62 + 1, -1 << 62, -1<<62 - 1, math.MaxInt, math.MinInt, math.MinInt + 1,
	} {
		want(t, "Of", whole.Of(n), big.NewInt(int64(n)))
	}
	if a := whole.Of(-1 << 33); !a.Neg || !slices.Equal(a.N, []uint32{0, 2}) {
		t.Errorf("Of -2^33: %v", a)
	}
}

func TestP21Int(t *testing.T) {
	for _, n := range []int{0, 1, -1, 9, -9, 1 << 32, -1 << 32, 1<<62 - 1, -1<<62 + 1} {
		a := whole.Of(n)
		noughts := api.Whole{Neg: a.Neg, N: append(slices.Clone(a.N), 0, 0)}
		for _, b := range []api.Whole{a, noughts} {
			if m, ok := whole.Int(b); m != n || !ok {
				t.Errorf("Int %v: %d %v", b, m, ok)
			}
		}
	}
	for _, n := range []int{1 << 62, -1 << 62, 1<<62 + 1, -1<<62 - 1, math.MaxInt, math.MinInt} {
		if m, ok := whole.Int(whole.Of(n)); m != 0 || ok {
			t.Errorf("Int %d: %d %v", n, m, ok)
		}
	}
	for _, a := range []api.Whole{{N: []uint32{0, 0, 1}}, {Neg: true, N: []uint32{1, 0, 1}}, {Neg: true, N: []uint32{0, 0, 0, 1, 0}}} {
		if m, ok := whole.Int(a); m != 0 || ok {
			t.Errorf("Int %v: %d %v", a, m, ok)
		}
	}
	for _, a := range zeros() {
		if m, ok := whole.Int(a); m != 0 || !ok {
			t.Errorf("Int %v: %d %v", a, m, ok)
		}
	}
}

func TestP21SignCmp(t *testing.T) {
	l := append(numbers(), zeros()...)
	for _, a := range l {
		if s := whole.Sign(a); s != toBig(a).Sign() {
			t.Errorf("Sign %v: %d", a, s)
		}
		for _, b := range l {
			if c := whole.Cmp(a, b); c != toBig(a).Cmp(toBig(b)) {
				t.Errorf("Cmp %v %v: %d", a, b, c)
			}
		}
	}
}

func TestP22Reckoning(t *testing.T) {
	l := append(numbers(), zeros()...)
	for _, a := range l {
		x := toBig(a)
		want(t, "Neg", whole.Neg(a), new(big.Int).Neg(x))
		for _, b := range l {
			y := toBig(b)
			want(t, "Add", whole.Add(a, b), new(big.Int).Add(x, y))
			want(t, "Sub", whole.Sub(a, b), new(big.Int).Sub(x, y))
			want(t, "Mul", whole.Mul(a, b), new(big.Int).Mul(x, y))
		}
	}
	rnd := rand.New(rand.NewSource(1))
	for range 2000 {
		a, b := long(rnd, 12), long(rnd, 12)
		x, y := toBig(a), toBig(b)
		want(t, "Add", whole.Add(a, b), new(big.Int).Add(x, y))
		want(t, "Sub", whole.Sub(a, b), new(big.Int).Sub(x, y))
		want(t, "Mul", whole.Mul(a, b), new(big.Int).Mul(x, y))
	}
}

func TestP23Examples(t *testing.T) {
	for _, c := range []struct{ a, b, q, r, floor int }{
		{7, 2, 3, 1, 3}, {-7, 2, -4, 1, -4}, {7, -2, -3, 1, -4}, {-7, -2, 4, 1, 3},
		{6, 2, 3, 0, 3}, {-6, 2, -3, 0, -3}, {6, -2, -3, 0, -3}, {-6, -2, 3, 0, 3},
		{0, 5, 0, 0, 0}, {0, -5, 0, 0, 0}, {1, 5, 0, 1, 0}, {-1, 5, -1, 4, -1}, {1, -5, 0, 1, -1}, {-1, -5, 1, 4, 0},
		{math.MinInt + 1, 1, math.MinInt + 1, 0, math.MinInt + 1}, {5, 1, 5, 0, 5}, {5, -1, -5, 0, -5}, {-5, -1, 5, 0, 5},
	} {
		q, r, e := whole.DivMod(whole.Of(c.a), whole.Of(c.b))
		if whole.Cmp(q, whole.Of(c.q)) != 0 || whole.Cmp(r, whole.Of(c.r)) != 0 || !isOwn(q) || !isOwn(r) || e != api.OK {
			t.Errorf("DivMod %d %d: %v %v %d", c.a, c.b, q, r, e)
		}
		f, e := whole.Floor(whole.Of(c.a), whole.Of(c.b))
		if whole.Cmp(f, whole.Of(c.floor)) != 0 || !isOwn(f) || e != api.OK {
			t.Errorf("Floor %d %d: %v %d", c.a, c.b, f, e)
		}
	}
}

// checkDivide holds DivMod and Floor against math/big.
func checkDivide(t *testing.T, a, b api.Whole) {
	t.Helper()
	x, y := toBig(a), toBig(b)
	if y.Sign() == 0 {
		return
	}
	q, r, e := whole.DivMod(a, b)
	if e != api.OK {
		t.Errorf("DivMod %v %v: %d", a, b, e)
	}
	// The library's DivMod leaves a rest from 0 on, too.
	wq, wr := new(big.Int).DivMod(x, y, new(big.Int))
	want(t, "quotient", q, wq)
	want(t, "rest", r, wr)
	f, e := whole.Floor(a, b)
	if e != api.OK {
		t.Errorf("Floor %v %v: %d", a, b, e)
	}
	// By a divisor above 0, the quotient with such a rest is the floor.
	if y.Sign() < 0 {
		x, y = new(big.Int).Neg(x), new(big.Int).Neg(y)
	}
	want(t, "Floor", f, new(big.Int).Div(x, y))
}

func TestP23DivModFloor(t *testing.T) {
	for _, a := range append(numbers(), zeros()...) {
		for _, b := range numbers() {
			checkDivide(t, a, b)
		}
	}
	rnd := rand.New(rand.NewSource(2))
	for range 2000 {
		a, b := long(rnd, 12), long(rnd, 6)
		checkDivide(t, a, b)
		// And without a rest, or with one of 1 more or less.
		p := whole.Mul(a, b)
		checkDivide(t, p, b)
		checkDivide(t, whole.Add(p, whole.Of(1)), b)
		checkDivide(t, whole.Sub(p, whole.Of(1)), b)
	}
}

func TestP23NoDivisionByZero(t *testing.T) {
	for _, none := range zeros() {
		for _, a := range append(numbers(), zeros()...) {
			q, r, e := whole.DivMod(a, none)
			if e != api.ErrZero || !isZero(q) || !isZero(r) {
				t.Errorf("DivMod %v by 0: %v %v %d", a, q, r, e)
			}
			f, e := whole.Floor(a, none)
			if e != api.ErrZero || !isZero(f) {
				t.Errorf("Floor %v by 0: %v %d", a, f, e)
			}
		}
	}
}

func TestP24Text(t *testing.T) {
	for _, a := range append(numbers(), zeros()...) {
		if s := whole.Text(a); s != toBig(a).String() {
			t.Errorf("Text %v: %s", a, s)
		}
	}
	for _, n := range []int{0, 1, -1, 10, -10, math.MaxInt, math.MinInt} {
		if s := whole.Text(whole.Of(n)); s != big.NewInt(int64(n)).String() {
			t.Errorf("Text %d: %s", n, s)
		}
	}
	// Longer than what is parsed.
	a := api.Whole{Neg: true, N: slices.Repeat([]uint32{1<<32 - 1}, 400)}
	if whole.Text(a) != toBig(a).String() {
		t.Errorf("Text of 400 limbs")
	}
}

func TestP24Parse(t *testing.T) {
	nines := strings.Repeat("9", 2000)
	for _, s := range []string{
		"0", "1", "-1", "9", "-9", "10", "-10", "4294967295", "-4294967296", "-18446744073709551616",
		nines[:1999], "-" + nines[:1998], "-" + nines[:1999], nines, "-" + nines, "-1" + strings.Repeat("0", 1999),
	} {
		x, _ := new(big.Int).SetString(s, 10)
		a, e := whole.Parse(s)
		if e != api.OK || whole.Text(a) != s {
			t.Errorf("Parse %.30s: %d", s, e)
		}
		want(t, "Parse", a, x)
	}
	for _, s := range []string{
		"", "-", "--", "--1", "-0", "00", "-00", "007", "-007", "-01", "+1", "+", "-+1", "+-1", " 1", "- 1", " -1", "-1 ",
		"1-", "1-1", "-1-", "a", "-a", "-1a", "1.0", "-1.0", "-0x1", "\u22121", "\u20131", "-\x00", "\x00", "-１",
		nines + "9", "-" + nines + "9", "-" + strings.Repeat("0", 2000), "-" + nines[:1999] + "x",
		strings.Repeat("-", 2000), "-" + strings.Repeat("7", 1<<20),
	} {
		if a, e := whole.Parse(s); e != api.ErrForm || !isZero(a) {
			t.Errorf("Parse %.30q: %v %d", s, a, e)
		}
	}
}

// same tells whether two answers are one number, both in the form of what is answered.
func same(a, b api.Whole) bool {
	return isOwn(a) && isOwn(b) && a.Neg == b.Neg && slices.Equal(a.N, b.N)
}

func TestP25Laws(t *testing.T) {
	rnd := rand.New(rand.NewSource(3))
	add, sub, mul := whole.Add, whole.Sub, whole.Mul
	for range 2000 {
		a, b, c := long(rnd, 6), long(rnd, 6), long(rnd, 6)
		if !same(add(a, b), add(b, a)) || !same(mul(a, b), mul(b, a)) {
			t.Fatalf("order: %v %v", a, b)
		}
		if !same(add(add(a, b), c), add(a, add(b, c))) || !same(mul(mul(a, b), c), mul(a, mul(b, c))) ||
			!same(mul(a, add(b, c)), add(mul(a, b), mul(a, c))) {
			t.Fatalf("brackets: %v %v %v", a, b, c)
		}
		if !same(sub(add(a, b), b), whole.Norm(a)) || !same(add(sub(a, b), b), whole.Norm(a)) ||
			!same(sub(a, b), add(a, whole.Neg(b))) || !same(sub(a, a), api.Whole{}) {
			t.Fatalf("what is taken away again: %v %v", a, b)
		}
		if p, e := whole.Parse(whole.Text(a)); e != api.OK || !same(p, whole.Norm(a)) {
			t.Fatalf("Parse of Text: %v", a)
		}
		q, r, e := whole.DivMod(a, b)
		if whole.Sign(b) == 0 {
			continue
		}
		if e != api.OK || !same(add(mul(q, b), r), whole.Norm(a)) || whole.Sign(r) < 0 || nat.Cmp(r.N, b.N) >= 0 {
			t.Fatalf("DivMod: %v %v", a, b)
		}
		// There is one rest: a, and b some times more, leave the same.
		_, again, _ := whole.DivMod(add(a, mul(b, c)), b)
		if !same(r, again) {
			t.Fatalf("rest of %v by %v, and of %v times more", a, b, c)
		}
	}
}

// calls are all calls that answer numbers, by what they answer of two numbers.
func calls(a, b api.Whole) []api.Whole {
	q, r, _ := whole.DivMod(a, b)
	f, _ := whole.Floor(a, b)
	return []api.Whole{whole.Norm(a), whole.Neg(a), whole.Add(a, b), whole.Sub(a, b), whole.Mul(a, b), q, r, f}
}

// fill writes over all that a number's list has room for.
func fill(a api.Whole) {
	n := a.N[:cap(a.N)]
	for i := range n {
		n[i] = 0xdead
	}
}

// copies are numbers that share nothing with those handed in.
func copies(l []api.Whole) []api.Whole {
	var out []api.Whole
	for _, a := range l {
		out = append(out, api.Whole{Neg: a.Neg, N: slices.Clone(a.N)})
	}
	return out
}

// equal tells whether two lists are the same ones, limb for limb.
func equal(l, m []api.Whole) bool {
	return slices.EqualFunc(l, m, func(a, b api.Whole) bool { return a.Neg == b.Neg && slices.Equal(a.N, b.N) })
}

func TestP1WhatIsHandedInStays(t *testing.T) {
	for _, a := range numbers() {
		for _, b := range numbers() {
			in := []api.Whole{a, b}
			was := copies(in)
			out := calls(a, b)
			whole.Cmp(a, b)
			whole.Int(a)
			whole.Sign(a)
			whole.Text(a)
			if !equal(in, was) {
				t.Fatalf("handed in %v, then %v", was, in)
			}
			for _, x := range out {
				fill(x)
			}
			if !equal(in, was) {
				t.Fatalf("answers of %v share its limbs", was)
			}
		}
	}
}

func TestP1AnswersAreTheCallersOwn(t *testing.T) {
	for _, a := range numbers() {
		for _, b := range numbers() {
			in := copies([]api.Whole{a, b})
			out := calls(in[0], in[1])
			was := copies(out)
			fill(in[0])
			fill(in[1])
			if !equal(out, was) {
				t.Fatalf("%v %v: an answer changes with what was handed in", a, b)
			}
			if !equal(calls(a, b), was) {
				t.Fatalf("%v %v: another answer the next time", a, b)
			}
			for i := range out {
				fill(out[i])
				if !equal(out[i+1:], was[i+1:]) {
					t.Fatalf("%v %v: answer %d shares its limbs with another one", a, b, i)
				}
			}
		}
	}
	for _, n := range []int{0, 5, -5, math.MinInt} {
		fill(whole.Of(n))
		want(t, "Of", whole.Of(n), big.NewInt(int64(n)))
	}
	p, _ := whole.Parse("-12")
	fill(p)
	if q, _ := whole.Parse("-12"); whole.Text(q) != "-12" {
		t.Errorf("Parse: %v", q)
	}
}

func TestP1NothingPanics(t *testing.T) {
	wide := make([]uint32, 3000)
	lists := [][]uint32{nil, {}, {0}, {1}, {0, 1}, wide, append(slices.Clone(wide), 1)}
	var all []api.Whole
	for _, n := range lists {
		all = append(all, api.Whole{N: n}, api.Whole{Neg: true, N: n})
	}
	for _, a := range all {
		for _, b := range all {
			for _, x := range calls(a, b) {
				if !isOwn(x) {
					t.Errorf("not the form of what is answered: %v", x.Neg)
				}
			}
			whole.Cmp(a, b)
		}
		whole.Int(a)
		whole.Sign(a)
		whole.Text(a)
	}
}
