package build_test

import (
	"reflect"
	"regexp"
	"slices"
	"testing"

	"gudgeon/api"
	"gudgeon/build"
	"gudgeon/lit"
	"gudgeon/nat"
	"gudgeon/term"
)

// meaning is what a name says: a term, or the place of a declaration.
type meaning struct{ term, decl int }

// env tells what a name says, and whether it says something.
type env func(name string) (meaning, bool)

// and is the same, but for one name, which says a term.
func (e env) and(name string, id int) env {
	return func(asked string) (meaning, bool) {
		if asked == name {
			return meaning{id, -1}, true
		}
		return e(asked)
	}
}

// plain makes terms anew: each list calls itself for its parts, each function is made as often as it is called.
type plain struct {
	b *term.Bank
	l []api.Decl
}

// ahead is what the first n declarations say.
func (p plain) ahead(n int) env {
	return func(name string) (meaning, bool) {
		for i := n - 1; i >= 0; i-- {
			if p.l[i].Name == name {
				return meaning{-1, i}, true
			}
		}
		return meaning{}, false
	}
}

// begins is how names begin that are reserved, whatever stands behind that.
var begins = regexp.MustCompile(`^(str|re)\.`)

// reserved is the chapter's rule, told anew.
func reserved(name string) bool {
	return slices.Contains(allReserved(), name) || begins.MatchString(name)
}

func (p plain) term(x api.Sexp, e env) (int, api.Errno) {
	if !x.List {
		return p.atom(x.Tok, e)
	}
	if len(x.L) == 0 {
		return 0, api.ErrArg
	}
	if x.L[0].List || x.L[0].Tok.Kind != api.TokSymbol {
		return 0, api.ErrOp
	}
	return p.list(x.L[0].Tok.Text, x.L[1:], e)
}

func (p plain) atom(tok api.Token, e env) (int, api.Errno) {
	switch {
	case tok.Kind == api.TokNumeral:
		n, wrong := nat.Parse(tok.Text)
		if wrong != api.OK {
			return 0, api.ErrOp
		}
		return p.b.Num(api.Whole{N: n})
	case tok.Kind == api.TokString:
		s, wrong := lit.Runs(lit.Points(tok.Text))
		if wrong != api.OK {
			s = nil
		}
		return p.b.Str(s)
	case tok.Kind != api.TokSymbol:
		return 0, api.ErrOp
	case tok.Text == "true":
		return p.b.Bool(true)
	case tok.Text == "false":
		return p.b.Bool(false)
	case reserved(tok.Text):
		return 0, api.ErrOp
	}
	m, is := e(tok.Text)
	switch {
	case !is:
		return 0, api.ErrName
	case m.decl < 0:
		return m.term, api.OK
	case !p.l[m.decl].Macro:
		return p.b.Const(p.l[m.decl].Name, p.l[m.decl].Sort)
	case len(p.l[m.decl].Params) > 0:
		return 0, api.ErrArg
	}
	return p.term(p.l[m.decl].Body, p.ahead(m.decl))
}

func (p plain) list(name string, parts []api.Sexp, e env) (int, api.Errno) {
	if name == "let" {
		return p.let(parts, e)
	}
	for op, called := range opNames() {
		if called != name || called == "-" && (op == api.OpNeg) != (len(parts) == 1) {
			continue
		}
		ids, wrong := p.terms(parts, e)
		if wrong != api.OK {
			return 0, wrong
		}
		return p.b.App(op, ids)
	}
	if reserved(name) {
		return 0, api.ErrOp
	}
	m, is := e(name)
	if !is || m.decl < 0 || !p.l[m.decl].Macro {
		return 0, api.ErrName
	}
	return p.call(m.decl, parts, e)
}

func (p plain) terms(l []api.Sexp, e env) ([]int, api.Errno) {
	var ids []int
	for _, x := range l {
		id, wrong := p.term(x, e)
		if wrong != api.OK {
			return nil, wrong
		}
		ids = append(ids, id)
	}
	return ids, api.OK
}

func (p plain) let(parts []api.Sexp, e env) (int, api.Errno) {
	if len(parts) != 2 || !parts[0].List {
		return 0, api.ErrArg
	}
	var names []string
	var said []api.Sexp
	for _, x := range parts[0].L {
		if !x.List || len(x.L) != 2 || x.L[0].List || x.L[0].Tok.Kind != api.TokSymbol {
			return 0, api.ErrArg
		}
		names, said = append(names, x.L[0].Tok.Text), append(said, x.L[1])
	}
	if slices.ContainsFunc(names, reserved) {
		return 0, api.ErrOp
	}
	for i, name := range names {
		if slices.Contains(names[:i], name) {
			return 0, api.ErrThere
		}
	}
	ids, wrong := p.terms(said, e)
	if wrong != api.OK {
		return 0, wrong
	}
	for i, name := range names {
		e = e.and(name, ids[i])
	}
	return p.term(parts[1], e)
}

func (p plain) call(i int, parts []api.Sexp, e env) (int, api.Errno) {
	ids, wrong := p.terms(parts, e)
	if wrong != api.OK {
		return 0, wrong
	}
	d := p.l[i]
	if len(ids) != len(d.Params) {
		return 0, api.ErrArg
	}
	within := p.ahead(i)
	for k, id := range ids {
		if n, _ := p.b.At(id); n.Sort != d.Params[k].Sort {
			return 0, api.ErrSort
		}
		within = within.and(d.Params[k].Name, id)
	}
	return p.term(d.Body, within)
}

// check is what Check is to answer.
func check(l []api.Decl, d api.Decl) api.Errno {
	if !d.Macro {
		return api.ErrArg
	}
	noSort := func(sort int) bool { return sort != api.SortBool && sort != api.SortInt && sort != api.SortStr }
	named, wrong := map[string]int{}, map[api.Errno]bool{api.ErrArg: noSort(d.Sort)}
	for _, p := range d.Params {
		named[p.Name]++
		wrong[api.ErrThere] = wrong[api.ErrThere] || named[p.Name] > 1
		wrong[api.ErrOp] = wrong[api.ErrOp] || reserved(p.Name)
		wrong[api.ErrArg] = wrong[api.ErrArg] || noSort(p.Sort)
	}
	for _, e := range []api.Errno{api.ErrThere, api.ErrOp, api.ErrArg} {
		if wrong[e] {
			return e
		}
	}
	p := plain{&term.Bank{}, l}
	within := p.ahead(len(l))
	for _, x := range d.Params {
		id, e := p.b.Const(x.Name, x.Sort)
		if e != api.OK {
			return e
		}
		within = within.and(x.Name, id)
	}
	id, e := p.term(d.Body, within)
	if n, _ := p.b.At(id); e == api.OK && n.Sort != d.Sort {
		return api.ErrSort
	}
	return e
}

// wantPlainAnswer complains if Term answers otherwise than plain, in banks that have the same; it answers the error.
func wantPlainAnswer(t *testing.T, b, other *term.Bank, l []api.Decl, x api.Sexp) api.Errno {
	t.Helper()
	p := plain{other, l}
	want, wrong := p.term(x, p.ahead(len(l)))
	if wrong != api.OK {
		want = 0
	}
	if got, e := build.Term(b, l, x); got != want || e != wrong {
		t.Errorf("%s: %d with error %d, not %d with %d", shown(x), got, e, want, wrong)
	}
	return wrong
}

// wantPlain is wantPlainAnswer, and complains if Term leaves something else in its bank.
func wantPlain(t *testing.T, b, other *term.Bank, l []api.Decl, x api.Sexp) api.Errno {
	t.Helper()
	e := wantPlainAnswer(t, b, other, l, x)
	if !reflect.DeepEqual(nodes(b), nodes(other)) {
		t.Errorf("%s: the bank has %q, not %q", shown(x), toldAll(b), toldAll(other))
	}
	return e
}
