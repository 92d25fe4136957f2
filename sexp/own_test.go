package sexp_test

import (
	"slices"
	"testing"

	"gudgeon/api"
	"gudgeon/sexp"
)

// lists is all lists of what was answered.
func lists(l []api.Item) []*[]api.Sexp {
	var all []*[]api.Sexp
	var gather func(x *api.Sexp)
	gather = func(x *api.Sexp) {
		if x.List {
			all = append(all, &x.L)
		}
		for i := range x.L {
			gather(&x.L[i])
		}
	}
	for i := range l {
		gather(&l[i].X)
	}
	return all
}

const many = "(a (b c) () (d (e f) g) ((h))) i (j (k)) () (())"

// Who adds to one list that was answered changes no other one.
func TestR3AddingToAList(t *testing.T) {
	want := sexp.Read(many)
	for i := range lists(want) {
		got := sexp.Read(many)
		all := lists(got)
		*all[i] = append(*all[i], sym("new", 1), sym("new", 2), list(3))
		n := len(*all[i])
		*all[i] = (*all[i])[: n-3 : n-3]
		wantItems(t, many, got, want)
	}
	got := sexp.Read(many)
	_ = append(got[:1], api.Item{E: api.ErrArg})
	wantItems(t, many, sexp.Read(many), want)
}

// No list has room that is another one's.
func TestR3ListsHaveTheirOwnRoom(t *testing.T) {
	got := sexp.Read(many)
	want := sexp.Read(many)
	for _, l := range lists(got) {
		rest := (*l)[len(*l):cap(*l)]
		for i := range rest {
			rest[i] = sym("new", 1)
		}
	}
	wantItems(t, many, got, want)
}

// Who changes one list's elements changes no other list's, and nothing that is asked later.
func TestR3ChangingAList(t *testing.T) {
	want := sexp.Read(many)
	for i, l := range lists(want) {
		got := sexp.Read(many)
		all := lists(got)
		for j := range *all[i] {
			(*all[i])[j].At = -5
		}
		if len(*l) == 0 {
			wantItems(t, many, got, want)
		}
		for j := range *all[i] {
			(*all[i])[j].At = (*l)[j].At
		}
		wantItems(t, many, got, want)
	}
	wantItems(t, many, sexp.Read(many), want)
}

// What is handed in stays as it was, and isn't kept.
func TestR3TokensThatAreHandedIn(t *testing.T) {
	l := toks(t, many)
	room := slices.Clone(append(l, tok(api.TokSymbol, "behind", 77)))
	got := sexp.Parse(room[:len(l)], len(many))
	if !slices.Equal(room[:len(l)], l) || room[len(l)] != tok(api.TokSymbol, "behind", 77) {
		t.Errorf("the tokens are %v", room)
	}
	clear(room)
	wantItems(t, many, got, sexp.Read(many))
}

func TestR3PrintAndDepthChangeNothing(t *testing.T) {
	x := list(1, sym("a", 2), list(3, atom(tok(api.TokString, `"`, 4)), list(5)), api.Sexp{Tok: tok(api.TokOpen, "(", 6)})
	kept := list(1, sym("a", 2), list(3, atom(tok(api.TokString, `"`, 4)), list(5)), api.Sexp{Tok: tok(api.TokOpen, "(", 6)})
	for range 3 {
		sexp.Print(x)
		sexp.Depth(x)
		sexp.Print(x.L[1])
	}
	if !same(x, kept) {
		t.Errorf("changed: %s", text([]api.Item{is(x)}))
	}
}

// The same call answers the same.
func TestR5TheSameAnswers(t *testing.T) {
	want := sexp.Read(many + " (x")
	for range 20 {
		sexp.Read(deep(100))
		sexp.Read(`(x "`)
		wantItems(t, many, sexp.Read(many+" (x"), want)
	}
}
