package eval_test

import (
	"slices"
	"strings"
	"testing"

	"gudgeon/api"
	"gudgeon/term"
)

func TestP111Numbers(t *testing.T) {
	wants(t, map[string]string{
		"0": "0", "7": "7", "(- 7)": "-7", "(- x)": "5", "(- (- x))": "-5", "(- z)": "0", "(+ x y)": "3", "(+ x y z x)": "-2", "(+ 1 2 3 4 5)": "15", "(+ x 5)": "0",
		"(- x y)": "-13", "(- y x)": "13", "(- y x y)": "5", "(- 10 1 2 3)": "4", "(- 10 (- 1 2 3))": "14", "(- 1 10 100)": "-109", "(- x x x)": "5",
		"(* 3 y)": "24", "(* x 3)": "-15", "(* 2 3 4)": "24", "(* (- 2) 3 x)": "30", "(* (- 2) x (- 3))": "-30", "(* 0 x)": "0", "(* 5 z 5)": "0", "(* x 1)": "-5",
		"(+ (* 2 x) (* 3 y) (- 7))": "7",
	}, integer("x", "-5"), integer("y", "8"))
}

// Numbers beyond any int.
func TestP111GreatNumbers(t *testing.T) {
	n, nines := "1"+strings.Repeat("0", 100), strings.Repeat("9", 100)
	l := []bind{integer("x", nines), integer("y", "-"+n), integer("z", "9223372036854775807")}
	wants(t, map[string]string{
		"(+ x 1)": n, "(+ x y)": "-1", "(- y x)": "-1" + nines, "(- (+ x 1))": "-" + n, "(+ z 1)": "9223372036854775808", "(- (- z) 2)": "-9223372036854775809", "(* 2 z)": "18446744073709551614", "(* x 9)": "8" + nines[1:] + "1",
		"(* y " + n + ")": "-1" + strings.Repeat("0", 200), "(= (+ x 1) (- y))": "true", "(< y (- x) x)": "true", "(distinct x y z)": "true", "(- x " + nines + ")": "0", nines: nines,
	}, l...)
}

// Each of 200 parts counts, in its place.
func TestP111ManyNumbers(t *testing.T) {
	var b term.Bank
	x, one := made(t, &b, "x"), made(t, &b, "1")
	for _, at := range []int{0, 1, 2, 100, 198, 199} {
		a := slices.Repeat([]int{one}, 200)
		a[at] = x
		less := "-247"
		if at == 0 {
			less = "-149"
		}
		for op, want := range map[int]api.Value{api.OpAdd: numberOf("249"), api.OpSub: numberOf(less), api.OpMul: numberOf("50"), api.OpLe: truthOf(at == 199), api.OpGe: truthOf(at == 0), api.OpEq: truthOf(false)} {
			id, e := b.App(op, a)
			if e != api.OK {
				t.Fatalf("error %d", e)
			}
			wantValue(t, "50 among 200", &b, id, want, integer("x", "50"))
		}
	}
}

// beyond is numbers that are no place of any text: those that an int holds, and greater and lesser ones.
func beyond() []string {
	return []string{
		"1099511627777", "4611686018427387903", "4611686018427387904", "9223372036854775806", "9223372036854775807", "9223372036854775808", "9223372036854775809", "18446744073709551615", "18446744073709551616", "18446744073709551617", "36893488147419103233", "1" + strings.Repeat("0", 500),
	}
}

// below is numbers below nought, also of such.
func below() []string {
	l := []string{"-1", "-2", "-3", "-4", "-5"}
	for _, n := range beyond() {
		l = append(l, "-"+n)
	}
	return l
}

func TestP111Index(t *testing.T) {
	l := []bind{letters("s", "abcabab"), letters("t", "ab"), letters("u", "abc")}
	wants(t, map[string]string{
		"(str.indexof s t 0)": "0", "(str.indexof s t 1)": "3", "(str.indexof s t 3)": "3", "(str.indexof s t 4)": "5", "(str.indexof s t 5)": "5", "(str.indexof s t 6)": "-1", "(str.indexof s t 7)": "-1", "(str.indexof s t 8)": "-1",
		"(str.indexof s u 0)": "0", "(str.indexof s u 1)": "-1", "(str.indexof t s 0)": "-1", "(str.indexof s s 0)": "0", "(str.indexof s s 1)": "-1", `(str.indexof s "x" 0)`: "-1", `(str.indexof s "b" 2)`: "4",
		`(str.indexof s "" 0)`: "0", `(str.indexof s "" 3)`: "3", `(str.indexof s "" 6)`: "6", `(str.indexof s "" 7)`: "7", `(str.indexof s "" 8)`: "-1", `(str.indexof "" "" 0)`: "0", `(str.indexof "" "" 1)`: "-1", `(str.indexof "" "a" 0)`: "-1",
	}, l...)
	for _, n := range append(beyond(), below()...) {
		for _, s := range []string{"s", "t", `""`} {
			want(t, "(str.indexof s "+s+" x)", "-1", append(l, integer("x", n))...)
			want(t, `(str.indexof "" `+s+" x)", "-1", append(l, integer("x", n))...)
		}
	}
	// In texts that no machine could hold code point by code point.
	huge := []bind{long("s", []api.Run{run(97, most-1), run(98, 1)}), letters("t", "b"), letters("u", "aab"), integer("x", "1099511627775"), integer("y", "1099511627776"), integer("z", "1099511627777")}
	wants(t, map[string]string{
		"(str.indexof s t 0)": "1099511627775", "(str.indexof s t x)": "1099511627775", "(str.indexof s t y)": "-1", "(str.indexof s u 5)": "1099511627773", `(str.indexof s "" y)`: "1099511627776", `(str.indexof s "" z)`: "-1", "(str.len s)": "1099511627776",
	}, huge...)
}

func TestP111Len(t *testing.T) {
	wants(t, map[string]string{`(str.len "")`: "0", "(str.len s)": "3", `(str.len "\u{2ffff}b")`: "2", "(str.len t)": "1099511627776", "(str.len u)": "65536", "(str.len (str.++ s s))": "6"},
		letters("s", "aab"), long("t", []api.Run{run(0, most)}), long("u", zigzag(65536, 1)))
}
