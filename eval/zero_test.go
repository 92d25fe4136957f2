package eval_test

import (
	"math"
	"reflect"
	"testing"

	"gudgeon/api"
	"gudgeon/eval"
	"gudgeon/term"
)

func TestP111Zero(t *testing.T) {
	for sort, want := range map[int]string{api.SortBool: "false", api.SortInt: "0", api.SortStr: `""`} {
		v := eval.Zero(sort)
		if v.Sort != sort || told(v) != want {
			t.Errorf("%d: %+v, not %s", sort, v, want)
		}
		wantClean(t, "zero", v)
	}
	for _, sort := range []int{0, -1, -2, -3, 4, 5, 100, 256 + api.SortInt, 1<<32 + api.SortInt, math.MaxInt, math.MinInt} {
		if v := eval.Zero(sort); !reflect.DeepEqual(v, api.Value{}) {
			t.Errorf("%d: %+v", sort, v)
		}
	}
}

func TestP111Example(t *testing.T) {
	l := []bind{integer("x", "3"), letters("s", "ab")}
	want(t, "(str.++ s s)", `"abab"`, l...)
	want(t, `(str.indexof (str.++ s s) "b" 2)`, "3", l...)
	want(t, "(str.at s x)", `""`, l...)
	want(t, "(<= 1 x 3)", "true", l...)
}

// Of an operation that no bind helps, the constants are Zero.
func TestP111NoBinds(t *testing.T) {
	for _, l := range [][]bind{nil, {}} {
		wants(t, map[string]string{
			"p": "false", "x": "0", "s": `""`, "true": "true", "false": "false", "7": "7", `"abc"`: `"abc"`, "(not p)": "true", "(= p q)": "true", "(= x y)": "true", "(= s t u)": "true", "(distinct x y)": "false",
			"(+ x 5)": "5", "(- x 5)": "-5", `(str.++ s "b" t)`: `"b"`, "(str.len s)": "0", "(ite p x 3)": "3", "(<= x y)": "true", "(< x y)": "false", "(str.prefixof s t)": "true", "(str.indexof s t x)": "0", `(str.replace s t "a")`: `"a"`,
		}, l...)
	}
}

// Ordinary terms, some levels deep, under an ordinary assignment.
func TestP111Levels(t *testing.T) {
	wants(t, map[string]string{
		"(and (or p q) (not (and p q)))":                                             "true",
		"(=> (and p (not q)) (or (< x y) (str.contains s t)))":                       "true",
		"(ite (< x y) (str.++ s t s) (str.substr s 0 1))":                            `"abcabbabca"`,
		"(str.len (str.replace (str.++ s t s) (str.at s 2) (str.++ t t)))":           "13",
		"(+ (* 2 x) (- y) (str.len (str.++ s t)))":                                   "1",
		"(- (str.indexof (str.++ s t s) t 1) (str.indexof s (str.at t 9) (+ x 1)))":  "5",
		"(ite (= s (str.++ t t)) 1 (ite (distinct x y 8) (- (* 3 y) x) 3))":          "35",
		"(xor (>= x y) (= s t) (str.suffixof (str.substr s 2 y) s))":                 "true",
		"(let ((w (str.++ s t))) (= (str.len w) (+ (str.len s) (str.len t))))":       "true",
		"(not (distinct (str.at s 0) (str.at s 3) (str.substr t 0 1)))":              "true",
		`(str.replace (str.substr (str.++ s "xyz" t) 2 (- y 6)) "y" (str.++ t "!"))`: `"caxbb!zbb"`,
	}, boolean("p", true), boolean("q", false), integer("x", "4"), integer("y", "13"), letters("s", "abca"), letters("t", "bb"), letters("u", "never"))
	var b term.Bank
	made(t, &b, "(+ x 1)")
	// Whatever is in the bank besides is nobody's affair.
	id := made(t, &b, "(* (+ x 1) 3)")
	made(t, &b, "(+ (* (+ x 1) 3) y)")
	wantValue(t, "one of many", &b, id, numberOf("15"), integer("x", "4"))
}
