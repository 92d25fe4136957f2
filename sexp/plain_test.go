package sexp_test

import (
	"math/rand"
	"slices"
	"strconv"
	"strings"
	"testing"

	"gudgeon/api"
	"gudgeon/lex"
	"gudgeon/sexp"
)

// text is items, to complain about them.
func text(l []api.Item) string {
	var b strings.Builder
	for _, x := range l {
		b.WriteString(strconv.Itoa(x.At))
		b.WriteByte(':')
		if x.E != api.OK {
			b.WriteString("error " + strconv.Itoa(int(x.E)))
		}
		plainText(&b, x.X)
		b.WriteByte('\n')
	}
	return b.String()
}

// plainText is an s-expression with its places.
func plainText(b *strings.Builder, x api.Sexp) {
	b.WriteString(strconv.Itoa(x.Tok.Kind) + x.Tok.Text + "@" + strconv.Itoa(x.At))
	if x.List || len(x.L) > 0 {
		b.WriteByte('(')
		for _, y := range x.L {
			plainText(b, y)
			b.WriteByte(' ')
		}
		b.WriteByte(')')
	}
}

// plain reads tokens anew: by calling itself for what stands within brackets.
type plain struct {
	l   []api.Token
	end int
}

// one is what begins at i, and the place behind it; that is -1, if it is not closed.
func (p plain) one(i int) (api.Sexp, int) {
	if p.l[i].Kind != api.TokOpen {
		return atom(p.l[i]), i + 1
	}
	x := list(p.l[i].At)
	for i++; i < len(p.l); {
		if p.l[i].Kind == api.TokClose {
			return x, i + 1
		}
		y, next := p.one(i)
		if next < 0 {
			break
		}
		x.L, i = append(x.L, y), next
	}
	return api.Sexp{}, -1
}

// plainDepth is how deep an s-expression is, however deep.
func plainDepth(x api.Sexp) int {
	if !x.List {
		return 0
	}
	d := 0
	for _, y := range x.L {
		d = max(d, plainDepth(y))
	}
	return d + 1
}

// items is all of it.
func (p plain) items() []api.Item {
	var items []api.Item
	for i := 0; i < len(p.l); {
		if p.l[i].Kind == api.TokClose {
			items = append(items, wrong(api.ErrClose, p.l[i].At))
			i++
			continue
		}
		x, next := p.one(i)
		switch {
		case next < 0:
			return append(items, wrong(api.ErrEnd, p.end))
		case plainDepth(x) > 64:
			items = append(items, wrong(api.ErrLong, x.At))
		default:
			items = append(items, is(x))
		}
		i = next
	}
	return items
}

// wantPlain complains if Parse answers otherwise than plain, or changes what it is handed.
func wantPlain(t *testing.T, l []api.Token, end int) {
	t.Helper()
	kept := slices.Clone(l)
	wantItems(t, "Parse", sexp.Parse(l, end), plain{l, end}.items())
	if !slices.Equal(l, kept) {
		t.Errorf("Parse changed %v to %v", kept, l)
	}
}

func TestP61AllShortTokens(t *testing.T) {
	for n := range 8 {
		many := 1
		for range n {
			many *= 3
		}
		for c := range many {
			l := make([]api.Token, n)
			for i := range l {
				l[i] = tok(1+c%3, []string{"(", ")", "x"}[c%3], 10*i)
				c /= 3
			}
			wantPlain(t, l, 99)
		}
	}
}

// someTokens is tokens, of which more open than close, or fewer.
func someTokens(r *rand.Rand, n, opens, closes int) []api.Token {
	l := make([]api.Token, n)
	for i := range l {
		kind := r.Intn(10) - 1
		if k := r.Intn(100); k < opens {
			kind = api.TokOpen
		} else if k < opens+closes {
			kind = api.TokClose
		}
		l[i] = tok(kind, []string{"", "(", ")", "x", "7"}[r.Intn(5)], r.Intn(100)-10)
	}
	return l
}

func TestP61AnyTokens(t *testing.T) {
	r := rand.New(rand.NewSource(61))
	for range 5000 {
		wantPlain(t, someTokens(r, r.Intn(60), r.Intn(50), r.Intn(50)), r.Intn(100)-10)
	}
	for range 200 {
		// So that it goes deep, and comes back.
		l := someTokens(r, 40+r.Intn(200), 60, 20)
		l = append(l, someTokens(r, 40+r.Intn(300), 20, 60)...)
		wantPlain(t, l, r.Intn(1000))
	}
}

// anyScript is some script, with faults or without.
func anyScript(r *rand.Rand) string {
	pieces := []string{"(", ")", "(", ")", "a", "b c", `"x"`, "|y z|", "7", " ", "\n", "; x )\n", ":k", "#b1", "()", `"`, "|", "00", "'", "\x01", deep(63), strings.Repeat("(", 40), strings.Repeat(")", 30)}
	usual := 15 + r.Intn(9)
	var b strings.Builder
	for range r.Intn(40) {
		b.WriteString(pieces[r.Intn(usual)])
		b.WriteString([]string{"", " "}[r.Intn(2)])
	}
	return b.String()
}

func TestP62AnyScripts(t *testing.T) {
	r := rand.New(rand.NewSource(62))
	for range 10000 {
		s := anyScript(r)
		l, e, at := lex.Lex(s)
		want := plain{l, len(s)}.items()
		if e != api.OK {
			want = append(slices.DeleteFunc(want, func(x api.Item) bool { return x.E == api.ErrEnd }), wrong(e, at))
		}
		wantItems(t, s, sexp.Read(s), want)
	}
}

// someSexp is some s-expression that can be printed, of no more than that depth.
func someSexp(r *rand.Rand, depth int) api.Sexp {
	if depth == 0 || r.Intn(3) == 0 {
		texts := [][]string{{}, {}, {}, {"x", "", "a b", "(", ";", "7", `"`, "let", "'"}, {"0", "7", "1234567890"}, {"0.0", "1.50"}, {"", "a", `"`, `""`, "(", ")", ";", "|", "\n", `\u{62}`}, {":k", ":=", ":007"}, {"#x0Af", "#b0110"}}
		kind := api.TokSymbol + r.Intn(6)
		return atom(tok(kind, texts[kind][r.Intn(len(texts[kind]))], r.Intn(50)))
	}
	x := list(r.Intn(50))
	for range r.Intn(5) {
		x.L = append(x.L, someSexp(r, depth-1))
	}
	return x
}

// bare is x without its places.
func bare(x api.Sexp) api.Sexp {
	y := api.Sexp{List: x.List, Tok: tok(x.Tok.Kind, x.Tok.Text, 0)}
	for _, z := range x.L {
		y.L = append(y.L, bare(z))
	}
	return y
}

// wantBack complains if x isn't read back as it was printed: by itself, and with others around it.
func wantBack(t *testing.T, x api.Sexp) {
	t.Helper()
	s, e := sexp.Print(x)
	if e != api.OK {
		t.Errorf("Print(%.60s): error %d", text([]api.Item{is(x)}), e)
		return
	}
	for _, behind := range []string{"", " ", "\n; x", " y", " ) (", " (", ` "`, " '"} {
		got := sexp.Read(s + behind)
		if len(got) == 0 || got[0].E != api.OK || got[0].At != 0 || got[0].X.At != 0 || !same(bare(got[0].X), bare(x)) {
			t.Errorf("Read(%.200q): %.300s", s+behind, text(got))
		}
	}
	if got := sexp.Read(s); len(got) != 1 {
		t.Errorf("Read(%.200q): %d items", s, len(got))
	}
}

func TestP64WhatIsPrintedIsReadBack(t *testing.T) {
	r := rand.New(rand.NewSource(64))
	for range 3000 {
		x := someSexp(r, r.Intn(6))
		wantBack(t, x)
		wantBack(t, around(x, 64-plainDepth(x)))
	}
	wantBack(t, nested(64, 7))
}

// As much as a script may have: bytes, and tokens.
func TestP64AtTheLimits(t *testing.T) {
	wide := list(0)
	for range api.MaxTokens - 3 {
		wide.L = append(wide.L, sym("x", 3))
	}
	one := list(0, wide)
	s, _ := sexp.Print(one)
	if got := sexp.Read(s); len(got) != 1 || got[0].E != api.ErrLong || got[0].At != len(s)-1 {
		t.Errorf("a token too many: %.300s", text(got))
	}
	one = list(0, api.Sexp{List: true, L: wide.L[1:]})
	s, _ = sexp.Print(one)
	if got := sexp.Read(s); len(got) != 1 || !same(bare(got[0].X), bare(one)) {
		t.Errorf("as many tokens as may be: %.300s", text(got))
	}
	long := list(0, atom(tok(api.TokString, strings.Repeat("a", api.MaxScript-4), 0)))
	s, e := sexp.Print(long)
	if got := sexp.Read(s); e != api.OK || len(s) != api.MaxScript || len(got) != 1 || !same(bare(got[0].X), bare(long)) {
		t.Errorf("as many bytes as may be: %.300s", text(got))
	}
	// What is longer than a script may be is printed, too.
	long.L = append(long.L, sym("b", 0))
	s, e = sexp.Print(long)
	if got := sexp.Read(s); e != api.OK || len(s) != api.MaxScript+2 || len(got) != 1 || !sameItem(got[0], wrong(api.ErrLong, 0)) {
		t.Errorf("more bytes than may be: %.300s", text(got))
	}
}

// What stands behind an item doesn't change it; a list that is not closed is the last one.
func TestP64WhatStandsBehind(t *testing.T) {
	r := rand.New(rand.NewSource(65))
	for range 1000 {
		l := someTokens(r, r.Intn(60), 25, 25)
		all := sexp.Parse(l, 999)
		for n := range l {
			got := sexp.Parse(l[:n], 999)
			if m := len(got); m > 0 && got[m-1].E == api.ErrEnd {
				got = got[:m-1]
			}
			if len(got) > len(all) {
				t.Fatalf("%d items of %d tokens, %d of %d", len(got), n, len(all), len(l))
			}
			wantItems(t, "the items ahead", got, all[:len(got)])
		}
	}
}
