package build_test

import (
	"math/rand"
	"slices"
	"strconv"
	"testing"

	"gudgeon/api"
	"gudgeon/build"
	"gudgeon/term"
)

// wantSame complains if two texts are not one term, in one bank.
func wantSame(t *testing.T, l []api.Decl, texts ...string) {
	t.Helper()
	b := &term.Bank{}
	first, e := build.Term(b, l, read(t, texts[0]))
	was := b.Len()
	for _, text := range texts {
		if id, wrong := build.Term(b, l, read(t, text)); id != first || e != api.OK || wrong != api.OK || b.Len() != was {
			t.Errorf("%s and %s: %d with error %d, %d with %d; %d terms, then %d", texts[0], text, first, e, id, wrong, was, b.Len())
		}
	}
}

func TestP104OneTerm(t *testing.T) {
	l := stock(t)
	wantSame(t, l, "(= (+ x 1) (+ x 1))", "(= (inc x) (+ x 1))", "(let ((a (inc x))) (= a a))", "(let ((a x)) (let ((b (+ a one))) (= b (inc a))))", "(|=| (+ |x| 1) (inc x))")
	wantSame(t, l, `"ab"`, `"\u{61}b"`, `"\u0061\u{62}"`, `(same "ab")`, `(let ((a "a\u{0062}")) a)`)
	wantSame(t, l, "(str.++ s s)", "(dup s)", "(dup (same s))", "(let ((a s) (b s)) (str.++ a b))")
	wantSame(t, l, "true", "(let ((a true)) a)", "|true|")
	wantSame(t, l, "(and p yes)", "(and p (or p q))", "(both p (yes))", "(let ((a q)) (both p (or p a)))")
	b := &term.Bank{}
	if id, e := build.Term(b, l, read(t, "(and (= (+ x 1) (inc x)) (= (inc x) (+ x 1)) (= (+ x 1) (inc x)))")); id != 4 || e != api.OK || b.Len() != 5 {
		t.Errorf("%d with error %d, of %d terms", id, e, b.Len())
	}
	// What is another term has another number.
	ids := map[int]string{}
	for _, text := range []string{"x", "y", "(+ x y)", "(+ y x)", "(- x y)", "(- x)", "1", "\"1\"", "s", "\"s\"", "true", "false", "(= x y)", "(inc x)", "(inc y)", "(dup s)", "(dup t)"} {
		id, e := build.Term(b, l, read(t, text))
		if ids[id] != "" || e != api.OK {
			t.Errorf("%s: %d with error %d, as %s", text, id, e, ids[id])
		}
		ids[id] = text
	}
}

// chance makes s-expressions by chance. Its names are those that lets and parameters bind, by sort.
type chance struct {
	r     *rand.Rand
	names map[int][]string
	funs  []api.Decl
	let   bool
}

// anyOf is one of a list.
func anyOf[T any](m *chance, l []T) T { return l[m.r.Intn(len(l))] }

// leaf is an atom of a sort.
func (m *chance) leaf(sort int) api.Sexp {
	if l := m.names[sort]; len(l) > 0 && m.r.Intn(4) > 0 {
		return sym(anyOf(m, l))
	}
	switch sort {
	case api.SortBool:
		return sym(anyOf(m, []string{"true", "false"}))
	case api.SortInt:
		return num(strconv.Itoa(m.r.Intn(4)))
	}
	return str(anyOf(m, []string{"", "a", "ab", `\u{61}`}))
}

// shapes is lists of operations of a sort: the sorts of their parts behind their names.
func shapes(sort int) []string {
	switch sort {
	case api.SortBool:
		return []string{"not B", "and BB", "or BBB", "=> BB", "xor BB", "= II", "= SS", "distinct SSS", "ite BBB", "<= II", "< III", ">= II", "> II", "str.prefixof SS", "str.suffixof SS", "str.contains SS"}
	case api.SortInt:
		return []string{"- I", "+ II", "- II", "- III", "ite BII", "str.len S", "str.indexof SSI", "+ III"}
	}
	return []string{"str.++ SS", "str.++ SSS", "str.at SI", "str.substr SII", "str.replace SSS", "ite BSS"}
}

// term is an s-expression of a sort, some levels deep.
func (m *chance) term(sort, depth int) api.Sexp {
	if depth == 0 || m.r.Intn(5) == 0 {
		return m.leaf(sort)
	}
	switch m.r.Intn(4) {
	case 0:
		if m.let {
			return m.binds(sort, depth)
		}
	case 1:
		if x, is := m.call(sort, depth); is {
			return x
		}
	}
	shape := anyOf(m, shapes(sort))
	i := slices.Index([]byte(shape), ' ')
	x := list(sym(shape[:i]))
	for _, letter := range []byte(shape[i+1:]) {
		x.L = append(x.L, m.term(slices.Index([]byte("?BIS"), letter), depth-1))
	}
	return x
}

// call is a list of a function of a sort.
func (m *chance) call(sort, depth int) (api.Sexp, bool) {
	for range 4 {
		if len(m.funs) == 0 {
			break
		}
		d := anyOf(m, m.funs)
		if d.Sort != sort {
			continue
		}
		if len(d.Params) == 0 && m.r.Intn(2) == 0 {
			return sym(d.Name), true
		}
		x := list(sym(d.Name))
		for _, p := range d.Params {
			x.L = append(x.L, m.term(p.Sort, depth-1))
		}
		return x, true
	}
	return api.Sexp{}, false
}

// binds is a let of a sort. Its names say what they are bound to within its last term alone.
func (m *chance) binds(sort, depth int) api.Sexp {
	within := &chance{r: m.r, names: map[int][]string{}, funs: m.funs, let: true}
	binds := list()
	l := []string{"x", "b", "c", "z"}
	m.r.Shuffle(len(l), func(i, j int) { l[i], l[j] = l[j], l[i] })
	bound := l[:m.r.Intn(4)]
	for sort, names := range m.names {
		for _, name := range names {
			if !slices.Contains(bound, name) {
				within.names[sort] = append(within.names[sort], name)
			}
		}
	}
	for _, name := range bound {
		s := 1 + m.r.Intn(3)
		binds.L = append(binds.L, list(sym(name), m.term(s, depth-1)))
		within.names[s] = append(within.names[s], name)
	}
	for _, names := range within.names {
		slices.Sort(names)
	}
	return list(sym("let"), binds, within.term(sort, depth-1))
}

// world is constants and functions by chance, and the chance that knows them all. No name is there twice.
func world(t *testing.T, r *rand.Rand) ([]api.Decl, *chance) {
	t.Helper()
	l := decls(t, "(p Bool)", "(q Bool)", "(x Int)", "(y Int)", "(s String)", "(u String)")
	m := &chance{r: r, let: true}
	globals := map[int][]string{api.SortBool: {"p", "q"}, api.SortInt: {"x", "y"}, api.SortStr: {"s", "u"}}
	for i := range 6 {
		d := api.Decl{Name: "f" + strconv.Itoa(i), Sort: 1 + r.Intn(3), Macro: true}
		m.names = map[int][]string{}
		for sort, names := range globals {
			m.names[sort] = slices.DeleteFunc(slices.Clone(names), func(name string) bool { return name == "x" || name == "s" })
		}
		for _, name := range []string{"x", "s", "a"}[:r.Intn(4)] {
			p := api.Param{Name: name, Sort: 1 + r.Intn(3)}
			d.Params = append(d.Params, p)
			m.names[p.Sort] = append(m.names[p.Sort], name)
		}
		d.Body = m.term(d.Sort, 2)
		l = append(l, d)
		m.funs = append(m.funs, d)
	}
	m.names = globals
	return l, m
}

// written is x with what lets bind, and what functions make, written in the place of each name and call.
// No names but those of constants are left, so none can come to say something else.
func written(x api.Sexp, l []api.Decl, says map[string]api.Sexp) api.Sexp {
	parts := func(l2 []api.Sexp) []api.Sexp {
		var all []api.Sexp
		for _, y := range l2 {
			all = append(all, written(y, l, says))
		}
		return all
	}
	name := x.Tok.Text
	if x.List {
		name = x.L[0].Tok.Text
	}
	switch y, bound := says[name]; {
	case !x.List && x.Tok.Kind != api.TokSymbol:
		return x
	case bound:
		return y
	case x.List && name == "let":
		within := map[string]api.Sexp{}
		for name, y := range says {
			within[name] = y
		}
		for _, b := range x.L[1].L {
			within[b.L[0].Tok.Text] = written(b.L[1], l, says)
		}
		return written(x.L[2], l, within)
	}
	i := slices.IndexFunc(l, func(d api.Decl) bool { return d.Name == name && d.Macro })
	if i < 0 && x.List {
		return list(append([]api.Sexp{x.L[0]}, parts(x.L[1:])...)...)
	}
	if i < 0 {
		return x
	}
	within := map[string]api.Sexp{}
	if x.List {
		for k, y := range parts(x.L[1:]) {
			within[l[i].Params[k].Name] = y
		}
	}
	return written(l[i].Body, l[:i], within)
}

// What a let binds, and what a function makes, may as well be written in its place.
func TestP104Written(t *testing.T) {
	longer := 0
	for seed := range 1500 {
		r := rand.New(rand.NewSource(int64(seed)))
		l, m := world(t, r)
		sort := 1 + r.Intn(3)
		x := m.term(sort, 4)
		plain := written(x, l, nil)
		b, other := &term.Bank{}, &term.Bank{}
		id, e := build.Term(b, l, x)
		was := b.Len()
		again, wrong := build.Term(b, l, plain)
		if id != again || e != api.OK || wrong != api.OK || b.Len() != was {
			t.Fatalf("%s: %d with error %d; %s: %d with error %d", shown(x), id, e, shown(plain), again, wrong)
		}
		if n, _ := b.At(id); n.Sort != sort {
			t.Errorf("%s: sort %d, not %d", shown(x), n.Sort, sort)
		}
		last, _ := build.Term(other, l[:6], plain)
		if other.Len() > was || told(other, last) != told(b, id) {
			t.Errorf("%s: %s, not %s", shown(x), short(told(b, id)), short(told(other, last)))
		}
		if shown(x) != shown(plain) {
			longer++
		}
	}
	if longer < 500 {
		t.Errorf("no more than %d with lets or functions", longer)
	}
}

// A function whose Check is OK makes, of parts of its parameters' sorts, a term of its own sort.
func TestP104CheckedFunctions(t *testing.T) {
	checked := 0
	for seed := range 1500 {
		r := rand.New(rand.NewSource(int64(seed)))
		l, m := world(t, r)
		for i := 6; i < len(l); i++ {
			spoilt := l[i]
			if r.Intn(2) == 0 {
				spoilt.Body = spoil(r, spoilt.Body)
			}
			wantCheck(t, l[:i], l[i], api.OK)
			e := build.Check(l[:i], spoilt)
			if want := check(l[:i], spoilt); e != want {
				t.Fatalf("%s: error %d, not %d", shown(spoilt.Body), e, want)
			}
			if e != api.OK {
				continue
			}
			checked++
			x := list(sym(spoilt.Name))
			for _, p := range spoilt.Params {
				x.L = append(x.L, m.term(p.Sort, 1))
			}
			b := &term.Bank{}
			id, e := build.Term(b, slices.Insert(slices.Clone(l), len(l), spoilt), x)
			if n, _ := b.At(id); e != api.OK || n.Sort != spoilt.Sort {
				t.Fatalf("%s of %s: sort %d with error %d", shown(x), shown(spoilt.Body), n.Sort, e)
			}
		}
	}
	if checked < 3000 {
		t.Errorf("no more than %d functions were right", checked)
	}
}

// Products are right of whatever parts, if they are right of any constants.
func TestP104Products(t *testing.T) {
	l := stock(t)
	for _, text := range []string{"(f ((a Int)) Int (* 2 a))", "(f ((a Int)) Int (* 2 a (- 3)))", "(f ((a Int)) Int (* (- 3) (+ a a)))"} {
		d := decl(t, text)
		wantCheck(t, l, d, api.OK)
		for _, part := range []string{"x", "3", "(- 3)", "(- x)", "(* 2 x)", "(inc 1)", "one", "(f x)", "(ite p 1 2)"} {
			b := &term.Bank{}
			id, e := build.Term(b, append(l, d), read(t, "(f "+part+")"))
			if n, _ := b.At(id); e != api.OK || n.Op != api.OpMul || n.Sort != api.SortInt {
				t.Errorf("%s of %s: error %d", text, part, e)
			}
		}
	}
	// Of what is wrong by itself some parts may make what is right.
	d := decl(t, "(f ((a Int) (b Int)) Int (* a b))")
	wantCheck(t, l, d, api.ErrOp)
	wantTerm(t, append(l, d), "(f 2 x)", "(* 2 x)")
	wantTerm(t, append(l, d), "(f x (- 2))", "(* x (- 2))")
	wantErrors(t, append(l, d), wrong{"(f x y)", api.ErrOp, in("x", "y")}, wrong{"(f x (inc 1))", api.ErrOp, in("x", "1", "(+ 1 1)")})
}
