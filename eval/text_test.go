package eval_test

import (
	"slices"
	"testing"

	"gudgeon/api"
	"gudgeon/term"
	"gudgeon/whole"
)

func TestP111Concat(t *testing.T) {
	wants(t, map[string]string{
		"(str.++ s t)": `"abb"`, "(str.++ t s)": `"bab"`, "(str.++ s t s)": `"abbab"`, `(str.++ "" s "" t "")`: `"abb"`, `(str.++ "" "")`: `""`, `(str.++ "" "" "")`: `""`, `(str.++ "a" "a" "a" "a" "a")`: `"aaaaa"`,
		"(str.++ s t u s t u s)": `"abbcabbcab"`, `(str.++ (str.++ s t) (str.++ u s))`: `"abbcab"`, `(str.++ "\u{2ffff}" "\u{0}" "\u{0}")`: `"\u{2ffff}\u{0}\u{0}"`,
	}, letters("s", "ab"), letters("t", "b"), letters("u", "c"))
	// 200 parts, in their order.
	var b term.Bank
	var a []int
	for i := range 200 {
		a = append(a, made(t, &b, []string{"s", "t", `"z"`, `""`, "(str.++ s t)"}[i%5]))
	}
	id, e := b.App(api.OpConcat, a)
	if e != api.OK {
		t.Fatalf("error %d", e)
	}
	var want []api.Run
	for range 40 {
		want = append(want, chars("abb")...)
		want = append(want, chars("zabb")...)
	}
	wantValue(t, "200 parts", &b, id, textOf(want), letters("s", "ab"), letters("t", "b"))
}

func TestP111At(t *testing.T) {
	l := []bind{letters("s", "abb"), long("t", []api.Run{run(97, most-1), run(98, 1)})}
	wants(t, map[string]string{"(str.at s 0)": `"a"`, "(str.at s 1)": `"b"`, "(str.at s 2)": `"b"`, "(str.at s 3)": `""`, "(str.at s 4)": `""`, `(str.at "" 0)`: `""`, "(str.at t 1099511627774)": `"a"`, "(str.at t 1099511627775)": `"b"`, "(str.at t 1099511627776)": `""`}, l...)
	for _, n := range append(beyond(), below()...) {
		for _, s := range []string{"s", "t", "u"} {
			want(t, "(str.at "+s+" x)", `""`, append(l, integer("x", n))...)
		}
	}
}

func TestP111Substr(t *testing.T) {
	l := []bind{letters("s", "abcd")}
	wants(t, map[string]string{
		"(str.substr s 0 4)": `"abcd"`, "(str.substr s 0 3)": `"abc"`, "(str.substr s 1 2)": `"bc"`, "(str.substr s 1 3)": `"bcd"`, "(str.substr s 1 4)": `"bcd"`, "(str.substr s 3 1)": `"d"`, "(str.substr s 3 9)": `"d"`, "(str.substr s 4 1)": `""`, "(str.substr s 5 1)": `""`,
		"(str.substr s 0 0)": `""`, "(str.substr s 2 0)": `""`, "(str.substr s 0 5)": `"abcd"`, `(str.substr "" 0 1)`: `""`, "(str.substr s 0 (- 1))": `""`, "(str.substr s (- 1) 3)": `""`,
	}, l...)
	for _, n := range beyond() {
		// A length that is too great is all that there is; there is nothing behind a place that is.
		wants(t, map[string]string{"(str.substr s 0 x)": `"abcd"`, "(str.substr s 1 x)": `"bcd"`, "(str.substr s 3 x)": `"d"`, "(str.substr s 4 x)": `""`, `(str.substr "" 0 x)`: `""`, "(str.substr s (- 1) x)": `""`, "(str.substr s x 1)": `""`, "(str.substr s x x)": `""`, "(str.substr s x (- x))": `""`, "(str.substr s (- x) x)": `""`, "(str.substr s (- x) (+ x 3))": `""`},
			append(l, integer("x", n))...)
	}
	for _, n := range below() {
		wants(t, map[string]string{"(str.substr s 0 x)": `""`, "(str.substr s 3 x)": `""`, "(str.substr s x 1)": `""`, "(str.substr s x 9)": `""`, "(str.substr s x x)": `""`, "(str.substr s x (- 5 x))": `""`}, append(l, integer("x", n))...)
	}
	huge := []bind{long("s", []api.Run{run(97, most-2), run(98, 2)}), long("u", zigzag(65536, 1<<24))}
	wants(t, map[string]string{
		"(str.substr s 1099511627773 5)": `"abb"`, "(str.len (str.substr s 1 1099511627774))": "1099511627774", "(str.len (str.substr s 1 1099511627776))": "1099511627775", "(str.len (str.substr u 16777215 16777218))": "16777218", "(str.substr u 1099511627775 99)": `"a"`,
		"(= s (str.substr s 0 1099511627776))": "true", "(= s (str.substr s 0 9223372036854775808))": "true", "(= u (str.substr u 0 1099511627776))": "true", "(= u (str.substr u 0 1099511627775))": "false",
	}, huge...)
}

func TestP111PrefixSuffixContains(t *testing.T) {
	wants(t, map[string]string{
		"(str.prefixof t s)": "true", "(str.prefixof s t)": "false", "(str.prefixof u s)": "false", "(str.prefixof s s)": "true", `(str.prefixof "" s)`: "true", `(str.prefixof s "")`: "false", `(str.prefixof "" "")`: "true",
		"(str.suffixof u s)": "true", "(str.suffixof s u)": "false", "(str.suffixof t s)": "false", "(str.suffixof s s)": "true", `(str.suffixof "" s)`: "true", `(str.suffixof s "")`: "false",
		"(str.contains s t)": "true", "(str.contains t s)": "false", "(str.contains s u)": "true", `(str.contains s "bb")`: "true", `(str.contains s "ac")`: "false", "(str.contains s s)": "true", `(str.contains s "")`: "true", `(str.contains "" s)`: "false", `(str.contains "" "")`: "true",
		// A part of a run begins and ends a text, too.
		`(str.prefixof "a" "aab")`: "true", `(str.prefixof "aaa" "aab")`: "false", `(str.suffixof "b" "abb")`: "true", `(str.suffixof "bbb" "abb")`: "false", `(str.contains "caaab" "aab")`: "true", `(str.contains "caaab" "cab")`: "false",
	}, letters("s", "abbc"), letters("t", "ab"), letters("u", "bc"))
}

func TestP111Replace(t *testing.T) {
	wants(t, map[string]string{
		`(str.replace s "b" "x")`: `"axcb"`, `(str.replace s "a" "xy")`: `"xybcb"`, `(str.replace s "cb" "")`: `"ab"`, `(str.replace s s "z")`: `"z"`, `(str.replace s "q" "z")`: `"abcb"`, `(str.replace s "bcbb" "z")`: `"abcb"`,
		`(str.replace s "" "z")`: `"zabcb"`, `(str.replace s "" "a")`: `"aabcb"`, `(str.replace s "" "")`: `"abcb"`, `(str.replace "" "" "z")`: `"z"`, `(str.replace "" "a" "z")`: `""`, `(str.replace s "b" "")`: `"acb"`, `(str.replace s "b" "b")`: `"abcb"`, `(str.replace s "c" "b")`: `"abbb"`,
		`(str.replace (str.replace s "b" "c") "c" "aa")`: `"aaacb"`,
	}, letters("s", "abcb"))
	want(t, `(str.replace s "ab" t)`, "1099511627771*97 2*99 3*98 in 3", long("s", []api.Run{run(97, most-5), run(98, 4)}), letters("t", "acc"))
}

// One term that stands many times among the parts.
func TestP111OneTermManyTimes(t *testing.T) {
	for _, c := range []struct {
		op   int
		part string
		want api.Value
	}{
		{api.OpAnd, "p", truthOf(true)}, {api.OpOr, "q", truthOf(false)}, {api.OpXor, "p", truthOf(false)}, {api.OpImplies, "q", truthOf(true)}, {api.OpEq, "s", truthOf(true)}, {api.OpDistinct, "s", truthOf(false)}, {api.OpLe, "x", truthOf(true)}, {api.OpLt, "x", truthOf(false)},
		{api.OpAdd, "x", numberOf("1400")}, {api.OpSub, "x", numberOf("-1386")}, {api.OpMul, "2", numberOf("1606938044258990275541962092341162602522202993782792835301376")}, {api.OpConcat, "s", textOf(slices.Repeat(chars("ab"), 200))},
	} {
		var b term.Bank
		id, e := b.App(c.op, slices.Repeat([]int{made(t, &b, c.part)}, 200))
		if e != api.OK {
			t.Fatalf("error %d", e)
		}
		wantValue(t, c.part, &b, id, c.want, boolean("p", true), integer("x", "7"), letters("s", "ab"))
	}
	wants(t, map[string]string{"(str.replace s s s)": `"ab"`, "(str.indexof s s 0)": "0", "(str.prefixof s s)": "true", "(str.substr s x x)": `""`, "(ite p p p)": "true"}, boolean("p", true), letters("s", "ab"), integer("x", "2"))
}

// Terms that are made of one another are told once each, or this would not end; and however deep they are.
func TestP111SharedAndDeep(t *testing.T) {
	var b term.Bank
	sum, text, power := made(t, &b, "x"), made(t, &b, "s"), "1"
	for range 40 {
		sum, _ = b.App(api.OpAdd, []int{sum, sum})
		text, _ = b.App(api.OpConcat, []int{text, text})
		power = whole.Text(whole.Mul(num(power), num("2")))
	}
	wantValue(t, "2^40 times x", &b, sum, numberOf(power), integer("x", "1"))
	wantValue(t, "2^40 times s", &b, text, textOf([]api.Run{run(97, most)}), letters("s", "a"))
	contrary := made(t, &b, "p")
	first := contrary
	for b.Len() < api.MaxTerms {
		contrary, _ = b.App(api.OpNot, []int{contrary})
	}
	odd := (contrary-first)%2 == 1
	wantValue(t, "deep", &b, contrary, truthOf(odd))
	wantValue(t, "deep", &b, contrary, truthOf(!odd), boolean("p", true))
}
