package nat_test

import (
	"math/big"
	"math/rand"
	"slices"
	"strings"
	"testing"

	"gudgeon/api"
	"gudgeon/nat"
)

// edges are limbs at which carrying, borrowing and guessing go wrong, if they do.
var edges = []uint32{0, 1, 1<<31 - 1, 1 << 31, 1<<32 - 2, 1<<32 - 1}

// toBig is what limbs say, reckoned without the package.
func toBig(a []uint32) *big.Int {
	out := new(big.Int)
	for i := len(a) - 1; i >= 0; i-- {
		out.Lsh(out, 32).Or(out, big.NewInt(int64(a[i])))
	}
	return out
}

// isOwn tells whether a number has no noughts behind its highest limb.
func isOwn(a []uint32) bool { return len(a) == 0 || a[len(a)-1] != 0 }

// want complains if got is another number than x, or has noughts behind.
func want(t *testing.T, what string, got []uint32, x *big.Int) {
	t.Helper()
	if !isOwn(got) || toBig(got).Cmp(x) != 0 {
		t.Errorf("%s: %v, not %s", what, got, x)
	}
}

// numbers are edges of up to three limbs, some with noughts behind them.
func numbers() [][]uint32 {
	out := [][]uint32{nil, {}, {0}, {0, 0, 0}, {7, 0, 0}, {0, 5, 0}}
	for _, x := range edges {
		out = append(out, []uint32{x})
		for _, y := range edges {
			out = append(out, []uint32{x, y})
			out = append(out, []uint32{x, 3, y})
		}
	}
	return out
}

// long is some n limbs, by a rule that has no end.
func long(r *rand.Rand, n int) []uint32 {
	out := make([]uint32, n)
	for i := range out {
		out[i] = r.Uint32()
		if r.Intn(3) == 0 {
			out[i] = edges[r.Intn(len(edges))]
		}
	}
	return out
}

func TestP11NormOfInt(t *testing.T) {
	for _, a := range numbers() {
		want(t, "Norm", nat.Norm(a), toBig(a))
	}
	for _, n := range []uint64{0, 1, 1<<32 - 1, 1 << 32, 1 << 62, 1 << 63, 1<<64 - 1} {
		want(t, "Of", nat.Of(n), new(big.Int).SetUint64(n))
	}
	if a := nat.Of(1 << 33); !slices.Equal(a, []uint32{0, 2}) {
		t.Errorf("Of 2^33: %v", a)
	}
	for _, c := range []struct {
		a  []uint32
		n  int
		ok bool
	}{
		{nil, 0, true},
		{[]uint32{0, 0, 0, 0}, 0, true},
		{[]uint32{9}, 9, true},
		{[]uint32{5, 1}, 1<<32 + 5, true},
		{[]uint32{1<<32 - 1, 1<<30 - 1}, 1<<62 - 1, true},
		{[]uint32{1<<32 - 1, 1<<30 - 1, 0, 0}, 1<<62 - 1, true},
		{[]uint32{0, 1 << 30}, 0, false},
		{[]uint32{0, 1 << 31}, 0, false},
		{[]uint32{0, 0, 1}, 0, false},
		{[]uint32{1, 0, 0, 0, 1}, 0, false},
	} {
		if n, ok := nat.Int(c.a); n != c.n || ok != c.ok {
			t.Errorf("Int %v: %d %v", c.a, n, ok)
		}
	}
}

func TestP12Reckoning(t *testing.T) {
	l := numbers()
	for _, a := range l {
		for _, b := range l {
			x, y := toBig(a), toBig(b)
			if c := nat.Cmp(a, b); c != x.Cmp(y) {
				t.Errorf("Cmp %v %v: %d", a, b, c)
			}
			want(t, "Add", nat.Add(a, b), new(big.Int).Add(x, y))
			want(t, "Mul", nat.Mul(a, b), new(big.Int).Mul(x, y))
			d, e := nat.Sub(a, b)
			if x.Cmp(y) < 0 {
				if e != api.ErrRange || len(d) != 0 {
					t.Errorf("Sub %v %v: %v %d", a, b, d, e)
				}
				continue
			}
			if e != api.OK {
				t.Errorf("Sub %v %v: %d", a, b, e)
			}
			want(t, "Sub", d, new(big.Int).Sub(x, y))
		}
	}
	if s := nat.Add([]uint32{1<<32 - 1}, []uint32{1}); !slices.Equal(s, []uint32{0, 1}) {
		t.Errorf("Add: %v", s)
	}
}

func TestP13DivModGcd(t *testing.T) {
	for _, none := range [][]uint32{nil, {}, {0}, {0, 0, 0}} {
		for _, a := range [][]uint32{nil, {0}, {7}, {1, 2, 3}} {
			q, r, e := nat.DivMod(a, none)
			if e != api.ErrZero || len(q) != 0 || len(r) != 0 {
				t.Errorf("DivMod %v by 0: %v %v %d", a, q, r, e)
			}
		}
	}
	q, r, e := nat.DivMod([]uint32{100}, []uint32{7})
	if !slices.Equal(q, []uint32{14}) || !slices.Equal(r, []uint32{2}) || e != api.OK {
		t.Errorf("100 by 7: %v %v %d", q, r, e)
	}
	l := numbers()
	for _, a := range l {
		for _, b := range l {
			checkDivMod(t, a, b)
			checkGcd(t, a, b)
		}
	}
	if g := nat.Gcd([]uint32{12}, []uint32{18, 0}); !slices.Equal(g, []uint32{6}) {
		t.Errorf("Gcd: %v", g)
	}
}

// checkDivMod holds DivMod against math/big, where b is not 0.
func checkDivMod(t *testing.T, a, b []uint32) {
	t.Helper()
	x, y := toBig(a), toBig(b)
	if y.Sign() == 0 {
		return
	}
	q, r, e := nat.DivMod(a, b)
	if e != api.OK {
		t.Errorf("DivMod %v %v: %d", a, b, e)
	}
	wq, wr := new(big.Int).QuoRem(x, y, new(big.Int))
	want(t, "quotient", q, wq)
	want(t, "rest", r, wr)
}

// checkGcd holds Gcd against math/big.
func checkGcd(t *testing.T, a, b []uint32) {
	t.Helper()
	want(t, "Gcd", nat.Gcd(a, b), new(big.Int).GCD(nil, nil, toBig(a), toBig(b)))
}

func TestP13LongDivision(t *testing.T) {
	// Limbs by which a guess is one too great stand only here and there: all of some are tried.
	var a, b []uint32
	for k := range 6 * 6 * 6 * 6 * 6 {
		a = a[:0]
		for range 5 {
			a = append(a, edges[k%6])
			k /= 6
		}
		for j := range 6 * 6 * 5 {
			b = append(b[:0], edges[j%6], edges[j/6%6], edges[j/36+1])
			x, y := toBig(a), toBig(b)
			q, r, _ := nat.DivMod(a, b)
			wq, wr := new(big.Int).QuoRem(x, y, new(big.Int))
			if toBig(q).Cmp(wq) != 0 || toBig(r).Cmp(wr) != 0 || !isOwn(q) || !isOwn(r) {
				t.Fatalf("DivMod %v %v: %v %v", a, b, q, r)
			}
		}
	}
	rnd := rand.New(rand.NewSource(1))
	for range 3000 {
		checkDivMod(t, long(rnd, rnd.Intn(40)), long(rnd, rnd.Intn(20)))
	}
	for range 200 {
		c := long(rnd, rnd.Intn(6))
		checkGcd(t, nat.Mul(c, long(rnd, rnd.Intn(6))), nat.Mul(c, long(rnd, rnd.Intn(6))))
	}
}

func TestP14Text(t *testing.T) {
	for _, a := range numbers() {
		if s := nat.Text(a); s != toBig(a).String() {
			t.Errorf("Text %v: %s", a, s)
		}
	}
	rnd := rand.New(rand.NewSource(2))
	for _, n := range []int{4, 50, 300, 1000} {
		a := long(rnd, n)
		if nat.Text(a) != toBig(a).String() {
			t.Errorf("Text of %d limbs", n)
		}
	}
	// Chunks of noughts within a text, and ahead of none.
	for k := range 40 {
		s := "1" + strings.Repeat("0", k)
		x, _ := new(big.Int).SetString(s, 10)
		a, e := nat.Parse(s)
		if e != api.OK || nat.Text(a) != s {
			t.Errorf("%s: %v %d", s, a, e)
		}
		want(t, s, a, x)
	}
}

func TestP14Parse(t *testing.T) {
	nines := strings.Repeat("9", 2000)
	for _, s := range []string{
		"0", "1", "9", "10", "999999999", "1000000000", "1000000001", "4294967295", "4294967296",
		"18446744073709551615", "18446744073709551616", nines[:18], nines[:1999], nines,
		"1" + strings.Repeat("0", 1999),
	} {
		x, _ := new(big.Int).SetString(s, 10)
		a, e := nat.Parse(s)
		if e != api.OK {
			t.Errorf("Parse %s: %d", s, e)
		}
		want(t, "Parse "+s, a, x)
	}
	for _, s := range []string{
		"", "00", "007", "01", "-1", "-0", "+1", " 1", "1 ", "1a", "a", "1.0", "1_0", "0x1", "1\n", "\x00",
		"１", "12345678901234567890:", "12345678901234567890/", nines + "9", strings.Repeat("0", 2001),
		nines[:1999] + "x", strings.Repeat("0", 2000), strings.Repeat("7", 1<<20),
	} {
		if a, e := nat.Parse(s); e != api.ErrForm || len(a) != 0 {
			t.Errorf("Parse %.30q: %v %d", s, a, e)
		}
	}
}

func TestP15Laws(t *testing.T) {
	rnd := rand.New(rand.NewSource(3))
	for range 300 {
		a, b, c := long(rnd, rnd.Intn(12)), long(rnd, rnd.Intn(12)), long(rnd, rnd.Intn(12))
		if nat.Cmp(nat.Add(a, b), nat.Add(b, a)) != 0 || nat.Cmp(nat.Mul(a, b), nat.Mul(b, a)) != 0 {
			t.Fatalf("order: %v %v", a, b)
		}
		if nat.Cmp(nat.Add(nat.Add(a, b), c), nat.Add(a, nat.Add(b, c))) != 0 ||
			nat.Cmp(nat.Mul(nat.Mul(a, b), c), nat.Mul(a, nat.Mul(b, c))) != 0 ||
			nat.Cmp(nat.Mul(a, nat.Add(b, c)), nat.Add(nat.Mul(a, b), nat.Mul(a, c))) != 0 {
			t.Fatalf("brackets: %v %v %v", a, b, c)
		}
		if d, e := nat.Sub(nat.Add(a, b), b); e != api.OK || nat.Cmp(d, a) != 0 {
			t.Fatalf("what is taken away again: %v %v", a, b)
		}
		if p, e := nat.Parse(nat.Text(a)); e != api.OK || !slices.Equal(p, nat.Norm(a)) {
			t.Fatalf("Parse of Text: %v", a)
		}
		q, r, e := nat.DivMod(a, b)
		if e == api.ErrZero && toBig(b).Sign() == 0 {
			continue
		}
		if e != api.OK || nat.Cmp(nat.Add(nat.Mul(q, b), r), a) != 0 || nat.Cmp(r, b) >= 0 {
			t.Fatalf("DivMod: %v %v", a, b)
		}
	}
}

// calls are all calls that answer numbers, by what they answer of two numbers.
func calls(a, b []uint32) [][]uint32 {
	d, _ := nat.Sub(a, b)
	q, r, _ := nat.DivMod(a, b)
	return [][]uint32{nat.Norm(a), nat.Add(a, b), d, nat.Mul(a, b), q, r, nat.Gcd(a, b)}
}

// fill writes over all that a list has room for.
func fill(a []uint32) {
	a = a[:cap(a)]
	for i := range a {
		a[i] = 0xdead
	}
}

// copies are lists that share nothing with those handed in.
func copies(l [][]uint32) [][]uint32 {
	var out [][]uint32
	for _, a := range l {
		out = append(out, slices.Clone(a))
	}
	return out
}

// same tells whether two lists of lists have the same limbs.
func same(l, m [][]uint32) bool {
	return slices.EqualFunc(l, m, slices.Equal[[]uint32])
}

func TestP1WhatIsHandedInStays(t *testing.T) {
	for _, a := range numbers() {
		for _, b := range numbers() {
			in := [][]uint32{a, b}
			was := copies(in)
			out := calls(a, b)
			nat.Cmp(a, b)
			nat.Int(a)
			nat.Text(a)
			if !same(in, was) {
				t.Fatalf("handed in %v, then %v", was, in)
			}
			for _, x := range out {
				fill(x)
			}
			if !same(in, was) {
				t.Fatalf("answers of %v share its limbs", was)
			}
		}
	}
}

func TestP1AnswersAreTheCallersOwn(t *testing.T) {
	for _, a := range numbers() {
		for _, b := range numbers() {
			in := copies([][]uint32{a, b})
			out := calls(in[0], in[1])
			was := copies(out)
			fill(in[0])
			fill(in[1])
			if !same(out, was) {
				t.Fatalf("%v %v: an answer changes with what was handed in", a, b)
			}
			if !same(calls(a, b), was) {
				t.Fatalf("%v %v: another answer the next time", a, b)
			}
			for i := range out {
				fill(out[i])
				if !same(out[i+1:], was[i+1:]) {
					t.Fatalf("%v %v: answer %d shares its limbs with another one", a, b, i)
				}
			}
		}
	}
}

func TestP1NothingPanics(t *testing.T) {
	wide := make([]uint32, 3000)
	for _, a := range [][]uint32{nil, {}, {0}, {1}, wide, append(slices.Clone(wide), 1)} {
		for _, b := range [][]uint32{nil, {}, {0}, {1}, {0, 1}, wide, append(slices.Clone(wide), 1)} {
			for _, x := range calls(a, b) {
				if !isOwn(x) {
					t.Errorf("noughts behind %d limbs", len(x))
				}
			}
			nat.Cmp(a, b)
		}
		nat.Int(a)
		nat.Text(a)
	}
}
