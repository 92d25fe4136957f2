package build_test

import (
	"math"
	"strconv"
	"strings"
	"testing"

	"gudgeon/api"
	"gudgeon/build"
)

// wantCheck complains if Check answers otherwise, or otherwise than it is told anew.
func wantCheck(t *testing.T, l []api.Decl, d api.Decl, want api.Errno) {
	t.Helper()
	if e := build.Check(l, d); e != want {
		t.Errorf("%s of %d parameters: error %d, not %d", short(d.Name+" "+shown(d.Body)), len(d.Params), e, want)
	}
	if e := check(l, d); e != want {
		t.Errorf("%s, told anew: error %d, not %d", short(d.Name), e, want)
	}
}

// wantChecks complains of each function, told as a text, that has another error.
func wantChecks(t *testing.T, l []api.Decl, want api.Errno, texts ...string) {
	t.Helper()
	for _, text := range texts {
		wantCheck(t, l, decl(t, text), want)
	}
}

func TestP103Functions(t *testing.T) {
	l := stock(t)
	wantChecks(t, l, api.OK,
		"(f () Int 1)", "(f () Bool (or p q))", "(f ((a Int)) Int a)", "(f ((a Int)) Int 5)", "(f ((a Int) (b Bool)) Bool (=> b (< a x)))", "(f ((a String)) Int (str.len (dup a)))",
		"(f ((x String)) String (str.++ x s))", "(f ((x Bool)) Bool (and x p))", "(f ((f Int)) Int (+ f 1))", "(f ((inc Int)) Int (+ inc 1))", "(inc ((a Int)) Int (inc (inc a)))", "(x () Int (+ x 1))",
		"(f ((a Int)) Int (let ((a (+ a 1)) (b a)) (* 2 (+ a b))))", "(f ((|| Int) (|a b| Int)) Int (- || |a b|))", "(f ((str Int) (re Int)) Int (+ str re))", "(f ((a Int)) Int (* 2 (- 3) a))",
		// What the function itself is called is not asked.
		"(and () Int 1)", "(true () Int 1)", "(str.x () Int 1)", "(|| () Int 1)", "(let ((a Int)) Int a)")
	wantCheck(t, nil, decl(t, "(f ((a Int)) Int (+ a 1))"), api.OK)
	wantCheck(t, []api.Decl{}, decl(t, "(f () String \"a\")"), api.OK)
	long := api.Decl{Name: strings.Repeat("f", 20000), Sort: api.SortInt, Macro: true, Body: num("1")}
	wantCheck(t, nil, long, api.OK)
}

func TestP103NoMacro(t *testing.T) {
	wantCheck(t, nil, api.Decl{}, api.ErrArg)
	wantCheck(t, nil, api.Decl{Name: "x", Sort: api.SortInt}, api.ErrArg)
	// Whatever else is wrong with it.
	for _, text := range []string{"(f ((a Int)) Int a)", "(f ((a Int) (a Int)) Int a)", "(f ((and Int)) Int 1)", "(f ((a Real)) Int 1)", "(f ((a Int)) Real 1)", "(f ((a Int)) Int nope)", "(f ((a Int)) Bool a)"} {
		d := decl(t, text)
		d.Macro = false
		wantCheck(t, stock(t), d, api.ErrArg)
	}
}

func TestP103ParameterNames(t *testing.T) {
	l := stock(t)
	wantChecks(t, l, api.ErrThere,
		"(f ((a Int) (a Int)) Int a)", "(f ((a Int) (b Int) (a Bool)) Int b)", "(f ((|| Int) (b Int) (|| Int)) Int b)", "(f ((a Int) (|a| Int)) Int 1)",
		// Ahead of reserved ones, of sorts that are none, and of what is wrong with the body.
		"(f ((and Int) (and Int)) Int 1)", "(f ((a Int) (and Int) (a Int)) Int 1)", "(f ((a Real) (a Real)) Real nope)", "(f ((a Int) (a Int)) Int nope)", "(f ((a Int) (a Int)) Bool 1)")
	for _, name := range append(allReserved(), "str.", "re.", "str.x", "re.y") {
		wantChecks(t, l, api.ErrOp, "(f (("+name+" Int)) Int 1)", "(f ((a Int) ("+name+" Bool)) Int a)", "(f (("+name+" Real)) Real ())", "(f ((a Real) ("+name+" Int)) Int nope)", "(f ((|"+name+"| Int)) Bool 1)")
	}
	wantChecks(t, l, api.OK, "(f ((ands Int) (str Int) (re Int) (strx Int) (Let Int) (|| Int)) Int 1)")
}

func TestP103Sorts(t *testing.T) {
	for _, sort := range []int{math.MinInt, -1, 0, 4, 5, 100, 1<<32 + 1, 256 + 1, math.MaxInt} {
		for _, body := range []string{"1", "a", "nope", "()", "true"} {
			d := decl(t, "(f ((a Int) (b Bool)) Int "+body+")")
			d.Sort = sort
			wantCheck(t, nil, d, api.ErrArg)
			for i := range 2 {
				d := decl(t, "(f ((a Int) (b Bool)) Int "+body+")")
				d.Params[i].Sort = sort
				wantCheck(t, nil, d, api.ErrArg)
				d.Sort = sort
				wantCheck(t, nil, d, api.ErrArg)
			}
		}
		d := api.Decl{Name: "f", Sort: sort, Macro: true, Body: num("1")}
		wantCheck(t, nil, d, api.ErrArg)
	}
}

// What Const says of a parameter is told, also where the body does not say it.
func TestP103LongNames(t *testing.T) {
	most := strings.Repeat("a", 16384)
	for _, body := range []api.Sexp{sym(most), sym(most + "a"), num("1"), sym("nope"), list(), sym("true")} {
		d := api.Decl{Name: "f", Sort: api.SortInt, Macro: true, Params: []api.Param{{Name: "b", Sort: api.SortInt}, {Name: most + "a", Sort: api.SortInt}}, Body: body}
		wantCheck(t, nil, d, api.ErrArg)
		d.Sort = api.SortBool
		wantCheck(t, nil, d, api.ErrArg)
	}
	d := api.Decl{Name: "f", Sort: api.SortInt, Macro: true, Params: []api.Param{{Name: most, Sort: api.SortInt}}, Body: sym(most)}
	wantCheck(t, nil, d, api.OK)
	d.Body = num("1")
	wantCheck(t, nil, d, api.OK)
	d.Body = sym(most + "a")
	wantCheck(t, nil, d, api.ErrName)
}

// As many parameters as an empty bank has room for, and one more.
func TestP103ManyParameters(t *testing.T) {
	d := api.Decl{Name: "f", Sort: api.SortInt, Macro: true, Body: sym("a19998")}
	for i := range 19999 {
		d.Params = append(d.Params, api.Param{Name: "a" + strconv.Itoa(i), Sort: api.SortInt})
	}
	wants := func(body string, want api.Errno) {
		t.Helper()
		d.Body = read(t, body)
		if e := build.Check(nil, d); e != want {
			t.Errorf("%s of %d parameters: error %d, not %d", body, len(d.Params), e, want)
		}
	}
	wants("a19998", api.OK)
	wants("(+ a0 a1)", api.OK)
	wants("(+ a0 1)", api.ErrLong)
	wants("(+ a0 nope)", api.ErrName)
	d.Params = append(d.Params, api.Param{Name: "b", Sort: api.SortInt})
	wants("b", api.OK)
	wants("a0", api.OK)
	wants("1", api.ErrLong)
	wants("(+ a0 a1)", api.ErrLong)
	wants("nope", api.ErrName)
	d.Params = append(d.Params, api.Param{Name: "c", Sort: api.SortInt})
	for _, body := range []string{"c", "a0", "1", "nope", "()"} {
		wants(body, api.ErrLong)
	}
	// A wrong name behind those for which there is no room is not reached; one ahead of them is told.
	d.Params = append(d.Params, api.Param{Name: strings.Repeat("n", 16385), Sort: api.SortInt})
	wants("a0", api.ErrLong)
	d.Params[7].Name = strings.Repeat("m", 16385)
	wants("a0", api.ErrArg)
}

func TestP103Bodies(t *testing.T) {
	l := stock(t)
	for e, texts := range map[api.Errno][]string{
		api.ErrName: in("(f ((a Int)) Int nope)", "(f ((a Int)) Int (+ a b))", "(f ((a Int)) Int (nope a))", "(f ((a Int)) Int (a))", "(f ((a Int)) Int (f a))", "(f () Int f)", "(f ((inc Int)) Int (inc 1))",
			"(f ((a Int)) Int (x a))", "(f ((a Int)) Bool nope)", "(f ((a Int)) Int (let ((b a)) c))", "(f ((a Int)) Int (+ (let ((b a)) b) b))"),
		api.ErrOp:    in("(f ((a Int)) Int and)", "(f ((a Int)) Int (div a 2))", "(f ((a Int)) Int (* a a))", "(f ((a Int) (b Int)) Int (* a b))", "(f () Int 1.5)", "(f () Int (1))", "(f () Int (let ((and 1)) 2))", "(f ((a Int)) Int (* x a))", "(f () Int ((a)))"),
		api.ErrArg:   in("(f () Int ())", "(f () Int (+ 1))", "(f () Int inc)", "(f () Int (inc))", "(f ((a Int)) Int (inc a a))", "(f () Int (let x 1))", "(f () Int (not))"),
		api.ErrThere: in("(f () Int (let ((a 1) (a 2)) a))", "(f ((a Int)) Int (let ((a 1) (b 2) (a 3)) nope))"),
		api.ErrSort:  in("(f ((a Int)) Int (+ a p))", "(f ((a Bool)) Int (+ a 1))", "(f ((a Bool)) Int (inc a))", "(f ((x Bool)) Int (+ x 1))", "(f () Int (= 1 true))"),
	} {
		wantChecks(t, l, e, texts...)
	}
	wantCheck(t, append(l, decls(t, "(g () Int f)", "(f () Int g)")...), decl(t, "(h () Int (+ f 1))"), api.ErrName)
	// A declaration that Const refuses.
	wantCheck(t, []api.Decl{{Name: "x", Sort: 7}}, decl(t, "(f () Int x)"), api.ErrArg)
	wantCheck(t, []api.Decl{{Name: "x", Sort: 7}}, decl(t, "(f () Int 1)"), api.OK)
}

func TestP103OwnSorts(t *testing.T) {
	l := stock(t)
	for text, own := range map[string]string{"1": "Int", "a": "Int", "(inc a)": "Int", "(str.len s)": "Int", "true": "Bool", "b": "Bool", "(< a 1)": "Bool", "c": "String", "(dup c)": "String", "\"\"": "String", "(ite b c s)": "String", "(let ((a b)) a)": "Bool", "one": "Int", "(yes)": "Bool"} {
		for _, sort := range []string{"Bool", "Int", "String"} {
			want := api.ErrSort
			if sort == own {
				want = api.OK
			}
			wantChecks(t, l, want, "(f ((a Int) (b Bool) (c String)) "+sort+" "+text+")")
		}
	}
	// Of what sort a function of the body tells that it is says nothing, its body does.
	l = append(l, decls(t, "(wrong () Bool 1)")...)
	wantChecks(t, l, api.OK, "(f () Int wrong)", "(f () Int (+ 1 (wrong)))")
	wantChecks(t, l, api.ErrSort, "(f () Bool wrong)", "(f () Bool (not wrong))")
}

// All declarations are ahead of the function, the last one of a name counts, and its parameters come ahead of them.
func TestP103Declarations(t *testing.T) {
	l := decls(t, "(x Int)", "(f () Int x)", "(x Bool)", "(g ((x String)) Int (+ f (str.len x)))")
	wantChecks(t, l, api.OK, "(h () Bool x)", "(h () Int f)", "(h ((x String)) Int (g x))", "(h ((x Int)) Int (+ f x))", "(f () Bool (= f 1))", "(h ((f Bool)) Bool (and f x))")
	wantChecks(t, l, api.ErrSort, "(h () Int x)", "(h () Int (g x))", "(h ((x Int)) Bool x)", "(h ((f Bool)) Int f)")
	wantChecks(t, l, api.ErrName, "(h () Int h)", "(h ((f Bool)) Int (f))", "(h ((x Int)) Int (x))")
	wantChecks(t, l[:1], api.ErrName, "(h () Int f)")
	wantChecks(t, l[:2], api.OK, "(h () Int (+ x f))")
}
