package eval_test

import (
	"slices"
	"testing"

	"gudgeon/api"
	"gudgeon/eval"
	"gudgeon/term"
)

// limit is texts that are just as long as may be, or one longer, by what the constants are.
type limit struct {
	script string
	last   string // what the script's text is told as, where it may be
	least  []bind // by these it is just as long as may be
	more   []bind // by these it is longer
}

// limits is such texts, of 2^40 code points and of 65536 runs.
func limits() []limit {
	whole := []api.Run{run(97, most)}
	less := []api.Run{run(97, most-1)}
	half := []api.Run{run(97, most/2)}
	many := zigzag(65535, 1)
	return []limit{
		{"(str.++ s t)", "1099511627776*97 in 1", []bind{long("s", less), letters("t", "a")}, []bind{long("s", whole), letters("t", "a")}},
		{"(str.++ s t)", "1*98 1099511627775*97 in 2", []bind{letters("s", "b"), long("t", less)}, []bind{letters("s", "b"), long("t", whole)}},
		{"(str.++ s s t)", "1099511627776*97 in 1", []bind{long("s", half)}, []bind{long("s", half), letters("t", "b")}},
		{"(str.++ t s s)", "1099511627776*97 in 1", []bind{long("s", half)}, []bind{long("s", half), letters("t", "b")}},
		{"(str.++ s t)", "1*97 1*98 1*99 1*97 1*98 1*99 1*97 1*98 in 65536", []bind{long("s", many), letters("t", "b")}, []bind{long("s", many), letters("t", "ba")}},
		{"(str.++ s t u)", "1*97 1*98 1*99 1*97 1*98 1*99 1*97 1*98 in 65536", []bind{long("s", many), letters("t", "bb"), letters("u", "b")}, []bind{long("s", many), letters("t", "b"), letters("u", "c")}},
		{"(str.++ t s)", "1*98 1*97 1*98 1*99 1*97 1*98 1*99 1*97 in 65536", []bind{long("s", many), letters("t", "b")}, []bind{long("s", many), letters("t", "cb")}},
		{`(str.replace s "x" t)`, "1099511627776*97 in 1", []bind{long("s", append(slices.Clone(less), run(120, 1))), letters("t", "a")}, []bind{long("s", append(slices.Clone(less), run(120, 1))), letters("t", "aa")}},
		{`(str.replace s "" t)`, "1*97 1*98 1*99 1*97 1*98 1*99 1*97 1*98 in 65536", []bind{long("s", zigzag(65536, 1)), letters("t", "")}, []bind{long("s", zigzag(65536, 1)), letters("t", "x")}},
		{`(str.replace s "ab" t)`, "1*99 1*98 1*99 1*97 1*98 1*99 1*97 1*98 in 65536", []bind{long("s", zigzag(65536, 1)), letters("t", "cb")}, []bind{long("s", zigzag(65536, 1)), letters("t", "xyz")}},
	}
}

// around is scripts in which a text stands as a part: of a number, of a truth, of a text that would be
// short, and of what is not taken.
func around(script string) []string {
	return []string{
		script, "(str.len " + script + ")", "(+ 1 (str.len " + script + "))", "(* 0 (str.indexof " + script + ` "q" 0))`, "(str.indexof \"q\" " + script + " 0)",
		"(= " + script + ` "q")`, "(distinct \"q\" " + script + ` "q")`, "(str.prefixof " + script + ` "q")`, `(str.prefixof "q" ` + script + ")", "(str.suffixof " + script + ` "q")`, "(str.contains " + script + ` "")`, `(str.contains "" ` + script + ")",
		"(str.at " + script + " 0)", "(str.substr " + script + " 1 1)", "(str.substr " + script + " 0 0)", "(str.at \"abc\" (str.len " + script + "))", `(str.replace "a" "b" ` + script + ")", `(str.replace "a" ` + script + ` "b")`, "(str.substr \"abc\" 0 (str.len " + script + "))",
		"(ite true \"q\" " + script + ")", "(ite false " + script + ` "q")`, "(ite true 1 (str.len " + script + "))", "(ite false (= " + script + ` "") true)`, "(ite (= " + script + ` "q") 1 2)`, "(ite true (ite true 1 (ite false (str.len " + script + ") 2)) 3)",
		"(and false (= " + script + ` "q"))`, "(or true (str.contains " + script + ` "q"))`, "(=> false (= " + script + ` "q"))`, "(let ((w " + script + ")) (and false (= w w)))", "(not (= " + script + ` "q"))`, `(str.++ "" (str.at ` + script + ` 0) "")`,
	}
}

func TestP111TextsThatAreTooLong(t *testing.T) {
	for _, l := range limits() {
		want(t, l.script, l.last, l.least...)
		for _, script := range around(l.script) {
			wantLong(t, script, l.more...)
			var b term.Bank
			if _, e := eval.Eval(&b, made(t, &b, script), l.least); e != api.OK {
				t.Errorf("%s: error %d, and the text is short enough", script, e)
			}
		}
	}
}

// A text that a term is not made of is none of its affair, also if it is in the bank.
func TestP111LongTextsBeside(t *testing.T) {
	for _, l := range limits() {
		var b term.Bank
		made(t, &b, "(+ 1 x)")
		long := made(t, &b, l.script)
		wantValue(t, "behind", &b, made(t, &b, "(str.len (str.at s 1000000000000000))"), numberOf("0"), l.more...)
		wantNone(t, l.script, &b, long, api.ErrLong, l.more...)
		wantValue(t, "ahead", &b, made(t, &b, "(+ 1 x)"), numberOf("1"), l.more...)
		wantNone(t, l.script, &b, made(t, &b, "(= "+l.script+" s)"), api.ErrLong, l.more...)
	}
}

// A text that is too long as it stands in a bind says nothing: that is no error.
func TestP111LongTextsOfBinds(t *testing.T) {
	for _, s := range [][]api.Run{{run(97, most+1)}, zigzag(65537, 1)} {
		want(t, `(str.++ s "a")`, `"a"`, long("s", s))
	}
	want(t, "s", "1099511627776*97 in 1", long("s", []api.Run{run(97, most)}))
	want(t, "(ite p s t)", "1*97 1*98 1*99 1*97 1*98 1*99 1*97 1*98 in 65536", long("t", zigzag(65536, 1)))
}

// 200 parts may just be short enough together, whichever of them is longer than the others.
func TestP111ManyPartsThatAreLong(t *testing.T) {
	for _, at := range []int{0, 1, 77, 198, 199} {
		var b term.Bank
		a := slices.Repeat([]int{made(t, &b, "s")}, 200)
		a[at] = made(t, &b, "t")
		id, _ := b.App(api.OpConcat, a)
		length, _ := b.App(api.OpLen, []int{id})
		l := []bind{long("s", []api.Run{run(97, most/256)}), long("t", []api.Run{run(97, most/256*57)})}
		wantValue(t, "2^40", &b, id, textOf([]api.Run{run(97, most)}), l...)
		l[1] = long("t", []api.Run{run(97, most/256*57+1)})
		wantNone(t, "2^40 and 1", &b, length, api.ErrLong, l...)
		// 199 parts of 327 runs, and one of 463, no two of which meet in one run.
		l = []bind{long("s", zigzag(327, 1)), long("t", append(zigzag(462, 1), run(120, 1)))}
		wantValue(t, "65536 runs", &b, length, numberOf("65536"), l...)
		l[1] = long("t", append(zigzag(462, 1), run(120, 1), run(121, 1)))
		wantNone(t, "65537 runs", &b, length, api.ErrLong, l...)
	}
}

// Texts upon texts, which together would need much room, if none were let go of.
func TestP111LargeTextsOneByOne(t *testing.T) {
	var b term.Bank
	a, x := made(t, &b, `"a"`), made(t, &b, `"x"`)
	id := made(t, &b, "s")
	for range 200 {
		id, _ = b.App(api.OpReplace, []int{id, a, x})
		id, _ = b.App(api.OpReplace, []int{id, x, a})
		id, _ = b.App(api.OpConcat, []int{id, made(t, &b, "t")})
	}
	wantValue(t, "600 texts", &b, id, textOf(zigzag(60000, 1)), long("s", zigzag(60000, 1)))
}
