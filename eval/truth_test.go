package eval_test

import (
	"slices"
	"strconv"
	"strings"
	"testing"

	"gudgeon/api"
	"gudgeon/term"
)

// Each operation of truths, of each list of two to five truths, as it is told by counting.
func TestP111Truths(t *testing.T) {
	tell := map[string]func(a []bool) bool{
		"and":      func(a []bool) bool { return !slices.Contains(a, false) },
		"or":       func(a []bool) bool { return slices.Contains(a, true) },
		"=>":       func(a []bool) bool { return a[len(a)-1] || slices.Contains(a[:len(a)-1], false) },
		"xor":      func(a []bool) bool { return trues(a)%2 == 1 },
		"=":        func(a []bool) bool { return trues(a) == 0 || trues(a) == len(a) },
		"distinct": func(a []bool) bool { return len(a) == 2 && a[0] != a[1] },
	}
	for name, is := range tell {
		for n := 2; n <= 5; n++ {
			for bits := range 1 << n {
				var a []bool
				script := "(" + name
				for i := range n {
					a = append(a, bits>>i&1 == 1)
					script += " " + strconv.FormatBool(a[i])
				}
				want(t, script+")", strconv.FormatBool(is(a)))
			}
		}
	}
	wants(t, map[string]string{"(not true)": "false", "(not false)": "true", "(not (not true))": "true", "true": "true", "false": "false"})
}

// trues is how many are true.
func trues(a []bool) int {
	n := 0
	for _, is := range a {
		if is {
			n++
		}
	}
	return n
}

func TestP111Implies(t *testing.T) {
	wants(t, map[string]string{
		"(=> p q)": "false", "(=> q p)": "true", "(=> q r)": "true", "(=> p p p q)": "false", "(=> p q p r)": "true", "(=> q p p r)": "true", "(=> p p q r)": "true", "(=> p p p p)": "true", "(=> q q q q)": "true", "(=> p r q)": "true", "(=> (=> p q) q)": "true",
	}, boolean("p", true), boolean("q", false), boolean("r", false))
}

func TestP111EqualAndDistinct(t *testing.T) {
	wants(t, map[string]string{
		"(= x y)": "false", "(= x z)": "true", "(= x z x)": "true", "(= x y x)": "false", "(= y x x)": "false", "(= x x y)": "false", "(= x x x y x)": "false", "(= (- x) x)": "false", "(= (- 0) 0)": "true",
		"(distinct x y)": "true", "(distinct x z)": "false", "(distinct x y z)": "false", "(distinct x y x)": "false", "(distinct y x z)": "false", "(distinct x z y)": "false", "(distinct x y (- x))": "true", "(distinct x y (- x) (+ y 1) (- y))": "true", "(distinct 1 2 3 4 5 1)": "false", "(distinct 1 2 3 4 5 2)": "false",
		"(= s t)": "false", "(= s u s)": "true", "(= s t s)": "false", `(= s "ab")`: "true", `(= (str.++ s "") s u)`: "true", "(distinct s t)": "true", "(distinct s t u)": "false", "(distinct t s u)": "false", `(distinct s t "" "abb")`: "true", `(distinct s t "" "ab")`: "false", `(= "" "")`: "true", `(distinct "" "")`: "false",
		"(= p q)": "false", "(= p p q)": "false", "(= p q p)": "false", "(distinct p q)": "true", "(distinct p q p)": "false", "(distinct p p)": "false", "(= q q q)": "true",
	}, boolean("p", true), integer("x", "5"), integer("y", "6"), integer("z", "5"), letters("s", "ab"), letters("t", "ba"), letters("u", "ab"))
	// Great numbers, alike but in one place, and texts of many runs.
	n := strings.Repeat("123456789", 30)
	want(t, "(= x y)", "true", integer("x", n), integer("y", n))
	want(t, "(= x y)", "false", integer("x", n), integer("y", "-"+n))
	want(t, "(distinct x y z)", "true", integer("x", n), integer("y", n[:269]), integer("z", n[:269]+"8"))
	want(t, "(= s t)", "true", long("s", zigzag(65536, 7)), long("t", zigzag(65536, 7)))
	want(t, "(distinct s t u)", "true", long("s", zigzag(65536, 7)), long("t", zigzag(65535, 7)), long("u", append(zigzag(65535, 7), run(99, 7))))
}

func TestP111Orders(t *testing.T) {
	l := []bind{integer("x", "-3"), integer("y", "4"), integer("z", "4")}
	wants(t, map[string]string{
		"(<= x y)": "true", "(<= y x)": "false", "(<= y z)": "true", "(<= x y z)": "true", "(<= y z x)": "false", "(<= y x z)": "false", "(<= x x x)": "true",
		"(< x y)": "true", "(< y z)": "false", "(< x y z)": "false", "(< x y 5)": "true", "(< x 5 y)": "false", "(< y 5 x)": "false", "(< (- 7) x y)": "true",
		"(>= x y)": "false", "(>= y x)": "true", "(>= y z)": "true", "(>= y z x)": "true", "(>= y x z)": "false", "(>= x x y)": "false",
		"(> x y)": "false", "(> y x)": "true", "(> y z)": "false", "(> y z x)": "false", "(> 5 y x)": "true", "(> 5 x y)": "false", "(> y 0 x (- 7))": "true", "(> y 0 x (- 3))": "false",
		// The first and the last one stand as is asked, but not all in between.
		"(<= 1 5 3 7)": "false", "(< 1 5 3 7)": "false", "(>= 7 3 5 1)": "false", "(> 7 3 5 1)": "false", "(<= 1 1 2 2)": "true", "(>= 2 2 1 1)": "true",
	}, l...)
	// Each operation of each three of a few numbers.
	numbers := []string{"-18446744073709551617", "-2", "-1", "0", "1", "2", "18446744073709551616", "18446744073709551617"}
	for name, is := range map[string]func(i, j int) bool{"<=": func(i, j int) bool { return i <= j }, "<": func(i, j int) bool { return i < j }, ">=": func(i, j int) bool { return i >= j }, ">": func(i, j int) bool { return i > j }} {
		var b term.Bank
		two, three := made(t, &b, "("+name+" x y)"), made(t, &b, "("+name+" x y z)")
		for i, n := range numbers {
			for j, m := range numbers {
				l := []bind{integer("x", n), integer("y", m)}
				wantValue(t, name+" "+n+" "+m, &b, two, truthOf(is(i, j)), l...)
				for k, o := range numbers {
					wantValue(t, name+" "+n+" "+m+" "+o, &b, three, truthOf(is(i, j) && is(j, k)), append(l, integer("z", o))...)
				}
			}
		}
	}
}

// Of 200 parts each counts.
func TestP111ManyTruths(t *testing.T) {
	for at := range 200 {
		var b term.Bank
		yes, no := made(t, &b, "true"), made(t, &b, "false")
		one := func(common, other int) []int {
			a := slices.Repeat([]int{common}, 200)
			a[at] = other
			return a
		}
		for _, c := range []struct {
			op   int
			a    []int
			want bool
		}{
			{api.OpAnd, one(yes, no), false}, {api.OpOr, one(no, yes), true}, {api.OpXor, one(no, yes), true}, {api.OpXor, one(yes, no), true}, {api.OpEq, one(yes, no), false}, {api.OpImplies, one(yes, no), at < 199}, {api.OpDistinct, one(yes, no), false},
		} {
			id, e := b.App(c.op, c.a)
			if e != api.OK {
				t.Fatalf("error %d", e)
			}
			wantValue(t, "one of 200", &b, id, truthOf(c.want))
		}
	}
}

func TestP111Ite(t *testing.T) {
	l := []bind{boolean("p", true), integer("x", "5"), integer("y", "6"), letters("s", "ab"), letters("t", "b")}
	wants(t, map[string]string{
		"(ite p x y)": "5", "(ite q x y)": "6", "(ite p s t)": `"ab"`, "(ite q s t)": `"b"`, "(ite p q p)": "false", "(ite q q p)": "true", "(ite p p q)": "true",
		"(ite (str.contains s t) x y)": "5", "(ite (str.prefixof t s) x y)": "6", "(ite (= s t) s (ite (str.suffixof t s) t u))": `"b"`, "(ite (= (str.len s) 2) (ite (< x y) 1 2) 3)": "1", "(ite (distinct s t u) (- x) (- y))": "-5",
		"(+ (ite p 1 2) (ite q 10 20))": "21", "(str.len (ite (= s t) s t))": "1",
	}, l...)
}
