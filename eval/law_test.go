package eval_test

import (
	"math/rand"
	"slices"
	"strconv"
	"strings"
	"testing"

	"gudgeon/api"
	"gudgeon/eval"
	"gudgeon/term"
)

// laws is what is so of any truths, numbers and texts, where no text is too long.
func laws() []string {
	return []string{
		// Lengths and pieces.
		"(= (str.len (str.++ s t)) (+ (str.len s) (str.len t)))", "(= (str.len (str.++ s t u s)) (+ (str.len s) (str.len t) (str.len u) (str.len s)))", "(>= (str.len s) 0)", `(= (= (str.len s) 0) (= s ""))`,
		"(=> (<= 0 x (str.len s)) (= s (str.++ (str.substr s 0 x) (str.substr s x (str.len s)))))", "(=> (and (<= 0 x) (< x (str.len s))) (= s (str.++ (str.substr s 0 x) (str.at s x) (str.substr s (+ x 1) (str.len s)))))",
		"(= (str.at s x) (str.substr s x 1))", "(=> (or (< x 0) (>= x (str.len s)) (<= y 0)) (= (str.len (str.substr s x y)) 0))", "(=> (and (<= 0 x) (< 0 y) (<= (+ x y) (str.len s))) (= (str.len (str.substr s x y)) y))",
		"(=> (and (<= 0 x) (< x (str.len s)) (< (- (str.len s) x) y)) (= (str.len (str.substr s x y)) (- (str.len s) x)))", "(= (str.substr (str.++ s t) (str.len s) (str.len t)) t)", "(= (str.substr (str.++ s t) 0 (str.len s)) s)",
		// Texts within texts.
		"(str.prefixof s (str.++ s t))", "(str.suffixof t (str.++ s t))", "(str.contains (str.++ u s t) s)", "(= (str.prefixof s t) (= s (str.substr t 0 (str.len s))))", "(= (str.suffixof s t) (and (<= (str.len s) (str.len t)) (= s (str.substr t (- (str.len t) (str.len s)) (str.len s)))))",
		"(= (str.contains s t) (>= (str.indexof s t 0) 0))", "(=> (>= (str.indexof s t x) 0) (<= 0 x (str.indexof s t x) (- (str.len s) (str.len t))))", "(=> (>= (str.indexof s t x) 0) (= t (str.substr s (str.indexof s t x) (str.len t))))",
		"(=> (>= (str.indexof s t x) 0) (= (str.indexof s t (str.indexof s t x)) (str.indexof s t x)))", "(= (str.indexof s \"\" x) (ite (<= 0 x (str.len s)) x (- 1)))",
		"(= (str.replace s t u) (ite (str.contains s t) (str.++ (str.substr s 0 (str.indexof s t 0)) u (str.substr s (+ (str.indexof s t 0) (str.len t)) (str.len s))) s))", "(= (str.replace s s t) t)", "(= (str.replace s t t) s)",
		"(= (= s t) (and (str.prefixof s t) (str.prefixof t s)))", "(=> (and (str.contains s t) (str.contains t u)) (str.contains s u))",
		// Numbers.
		"(= (+ x y z) (+ z y x) (+ x (+ y z)))", "(= (- x y z) (- x (+ y z)) (+ x (- y) (- z)))", "(= (* 3 (+ x y)) (+ x y x y x y))", "(= (- (- x)) x)", "(= (+ x (- x)) 0)", "(= (* (- 2) x) (- (- x) x))", "(= (* 7 11 x) (* x 77))",
		"(= (< x y) (not (>= x y)))", "(= (<= x y) (or (< x y) (= x y)))", "(= (> x y) (< y x))", "(= (< x y z) (and (< x y) (< y z)))", "(= (>= x y z) (and (>= x y) (>= y z)))", "(= (distinct x y z) (not (or (= x y) (= y z) (= x z))))", "(= (= x y z) (and (= x y) (= y z)))", "(=> (< x y) (<= (+ x 1) y))",
		// Truths.
		"(= (=> p q r) (=> p (=> q r)) (or (not p) (not q) r))", "(= (xor p q r) (xor (xor p q) r))", "(= (xor p q) (distinct p q) (not (= p q)))", "(= (and p q r) (not (or (not p) (not q) (not r))))", "(not (distinct p q r))", "(= (ite p x y) (ite (not p) y x))", "(= (ite p q r) (and (=> p q) (=> (not p) r)))",
		"(= (str.len (ite p s t)) (ite p (str.len s) (str.len t)))", "(= (= p q) (and (=> p q) (=> q p)))",
	}
}

// largely is an assignment by chance with great numbers, and texts of runs that are long, and of many.
func largely(r *rand.Rand) []bind {
	l := []bind{boolean("p", r.Intn(2) == 0), boolean("q", r.Intn(2) == 0), boolean("r", r.Intn(2) == 0)}
	unit := []int{1, 2, 1 << 20, 1 << 34}[r.Intn(4)]
	for _, name := range []string{"s", "t", "u"} {
		n := []int{0, 1, 2, 3, 5, 50}[r.Intn(6)]
		from := r.Intn(3)
		var s []api.Run
		for i := range n {
			s = append(s, run(97+(from+i)%3, unit*(1+r.Intn(2))))
		}
		l = append(l, long(name, s))
	}
	for _, name := range []string{"x", "y", "z"} {
		n := strconv.Itoa(unit*(r.Intn(9)-1) + r.Intn(3) - 1)
		if r.Intn(8) == 0 {
			n = []string{"", "-"}[r.Intn(2)] + "9" + strings.Repeat("0", 17+r.Intn(8))
		}
		l = append(l, integer(name, n))
	}
	return l
}

func TestP113Laws(t *testing.T) {
	var b term.Bank
	var ids []int
	for _, law := range laws() {
		ids = append(ids, made(t, &b, law))
	}
	r := rand.New(rand.NewSource(113))
	for range 1500 {
		l := largely(r)
		if r.Intn(2) == 0 {
			l = assign(r)
		}
		for i, id := range ids {
			v, e := eval.Eval(&b, id, l)
			if e != api.OK || !v.B {
				t.Fatalf("%s is %s with error %d under %+v", laws()[i], told(v), e, l)
			}
		}
		wantHolds(t, &b, ids, true, api.OK, l...)
	}
}

// A term hangs on what its constants are first told to be, and on nothing else.
func TestP113ConstantsAlone(t *testing.T) {
	r := rand.New(rand.NewSource(1130))
	for range 300 {
		m := &maker{t: t, r: r, b: &term.Bank{}}
		m.stock()
		for range 12 {
			m.grow()
		}
		id := m.b.Len() - 1
		l := assign(r)
		want, e := eval.Eval(m.b, id, l)
		if e != api.OK {
			t.Fatalf("error %d", e)
		}
		for _, other := range alike(r, l) {
			wantValue(t, "another assignment", m.b, id, want, other...)
		}
		// More terms in the bank change nothing either.
		for range 5 {
			m.grow()
		}
		wantValue(t, "a greater bank", m.b, id, want, l...)
	}
}

// alike is assignments by which the constants p to z are as they are by l.
func alike(r *rand.Rand, l []bind) [][]bind {
	var first []bind
	for i, x := range l {
		if !slices.ContainsFunc(l[:i], func(y bind) bool { return y.Name == x.Name && y.V.Sort == x.V.Sort }) {
			first = append(first, x)
		}
	}
	mixed := slices.Clone(first)
	r.Shuffle(len(mixed), func(i, j int) { mixed[i], mixed[j] = mixed[j], mixed[i] })
	ahead := []bind{boolean("P", true), integer("xx", "77"), letters("", "never"), {Name: "x", V: api.Value{Sort: 7, I: num("77")}}, long("s", []api.Run{run(97, 0)}), long("t", zigzag(65537, 1))}
	rest := slices.Clone(first)
	for _, name := range strings.Split("pqrxyzstu", "") {
		rest = append(rest, boolean(name, false), integer(name, "0"), letters(name, ""))
	}
	dirty := slices.Clone(first)
	for i := range dirty {
		v := &dirty[i].V
		switch v.Sort {
		case api.SortBool:
			v.I, v.S = num("5"), chars("ab")
		case api.SortInt:
			v.B, v.S, v.I.N = true, zigzag(65537, 1), append(slices.Clone(v.I.N), 0, 0)
		case api.SortStr:
			v.B, v.I = true, num("-5")
		}
	}
	return [][]bind{first, mixed, append(ahead, l...), append(slices.Clone(rest), assign(r)...), dirty}
}
