package show_test

import (
	"strconv"
	"strings"
	"testing"

	"gudgeon/api"
	"gudgeon/show"
	"gudgeon/term"
)

// sized is a truth that is told by n atoms and lists, which is 1, or 3 or more.
func sized(t *testing.T, b *term.Bank, n int) int {
	p := sure(t)(b.Const("p", api.SortBool))
	if n == 1 {
		return p
	}
	if n == 3 {
		return sure(t)(b.App(api.OpNot, []int{p}))
	}
	k := min(n-2, api.MaxArgs)
	rest := n - 2 - (k - 1)
	if rest == 2 {
		k, rest = k-1, rest+1
	}
	last := sized(t, b, rest)
	parts := make([]int, k)
	for i := range parts {
		parts[i] = p
	}
	parts[k/2] = last
	return sure(t)(b.App(api.OpAnd, parts))
}

// nots is p within so many nots.
func nots(t *testing.T, b *term.Bank, n int) int {
	id := sure(t)(b.Const("p", api.SortBool))
	for range n {
		id = sure(t)(b.App(api.OpNot, []int{id}))
	}
	return id
}

// doubled is p, and p and p, and twice that, so many times.
func doubled(t *testing.T, b *term.Bank, n int) int {
	id := sure(t)(b.Const("p", api.SortBool))
	for range n {
		id = sure(t)(b.App(api.OpAnd, []int{id, id}))
	}
	return id
}

// counted is how many atoms and lists x has, told anew.
func counted(x api.Sexp) int {
	n, open := 0, []api.Sexp{x}
	for len(open) > 0 {
		x, n = open[len(open)-1], n+1
		open = append(open[:len(open)-1], x.L...)
	}
	return n
}

// wantTold complains if a term is not told by so many atoms and lists, or, if that is more than may be,
// as too long.
func wantTold(t *testing.T, what string, b *term.Bank, id, n int) {
	t.Helper()
	x, e := show.Term(b, id)
	if n > api.MaxSize {
		wantNone(t, what, x, e, api.ErrLong)
		return
	}
	if e != api.OK || counted(x) != n {
		t.Errorf("%s: %d atoms and lists with error %d, not %d", what, counted(x), e, n)
	}
	wantBare(t, what, x)
}

func TestP121MostAtomsAndLists(t *testing.T) {
	for _, n := range []int{1, 3, 4, 5, 6, 200, 201, 202, 203, 204, 205, 1000, 1996, 1997, 1998, 1999, 2000, 2001, 2002, 2003, 2004, 3000, 10000} {
		var b term.Bank
		id := sized(t, &b, n)
		wantTold(t, strconv.Itoa(n), &b, id, n)
		// As a part it takes no less.
		q := sure(t)(b.Const("q", api.SortBool))
		wantTold(t, strconv.Itoa(n)+" ahead", &b, sure(t)(b.App(api.OpAnd, []int{id, q})), n+3)
		wantTold(t, strconv.Itoa(n)+" behind", &b, sure(t)(b.App(api.OpAnd, []int{q, id})), n+3)
		wantTold(t, strconv.Itoa(n)+" within", &b, sure(t)(b.App(api.OpNot, []int{id})), n+2)
	}
}

// What ends just where there is no room any more may be an atom or a list, the first or the last one.
func TestP121EachEnd(t *testing.T) {
	for n := 1990; n <= 2002; n++ {
		for ahead := 990; ahead < 1000; ahead++ {
			var b term.Bank
			l, r := sized(t, &b, ahead), sized(t, &b, n-2-ahead)
			wantTold(t, strconv.Itoa(n), &b, sure(t)(b.App(api.OpOr, []int{l, r})), n)
		}
	}
}

func TestP121DoubledTerms(t *testing.T) {
	var b term.Bank
	n := 1
	for k := range 62 {
		wantTold(t, strconv.Itoa(k)+" times", &b, doubled(t, &b, k), n)
		n = 2 + 2*n
	}
	for _, k := range []int{63, 64, 65, 66, 200, 5000} {
		x, e := show.Term(&b, doubled(t, &b, k))
		wantNone(t, strconv.Itoa(k)+" times", x, e, api.ErrLong)
	}
}

func TestP121MostDeep(t *testing.T) {
	var b term.Bank
	for _, n := range []int{0, 1, 2, 62, 63, 64} {
		x, e := show.Term(&b, nots(t, &b, n))
		wantSays(t, strconv.Itoa(n)+" nots", x, e, strings.Repeat("(not ", n)+"p"+strings.Repeat(")", n))
	}
	for _, n := range []int{65, 66, 67, 128, 998, 999, 1000, 1001, 19000} {
		x, e := show.Term(&b, nots(t, &b, n))
		wantNone(t, strconv.Itoa(n)+" nots", x, e, api.ErrLong)
	}
}

// The deepest one may be any of the parts, and stand there with others or be there twice.
func TestP121MostDeepAmongOthers(t *testing.T) {
	for _, n := range []int{62, 63, 64, 65} {
		var b term.Bank
		deep, q := nots(t, &b, n), sure(t)(b.Const("q", api.SortBool))
		for _, parts := range [][]int{{deep, q}, {q, deep}, {q, deep, q}, {deep, deep}, {deep, nots(t, &b, 3), deep}, {q, q, q, q, nots(t, &b, n-1), deep}} {
			x, e := show.Term(&b, sure(t)(b.App(api.OpXor, parts)))
			if n > 63 {
				wantNone(t, strconv.Itoa(n)+" among others", x, e, api.ErrLong)
				continue
			}
			wantBare(t, "deep", x)
			if e != api.OK {
				t.Errorf("%d among others: error %d", n, e)
			}
		}
	}
}

// wantLiteral complains if a literal of a text, by itself and as a part, is not told, or is, though it is too long.
func wantLiteral(t *testing.T, s []api.Run, text string, n int) {
	t.Helper()
	var b term.Bank
	id := sure(t)(b.Str(s))
	within := sure(t)(b.App(api.OpLen, []int{id}))
	u := sure(t)(b.Const("u", api.SortStr))
	behind := sure(t)(b.App(api.OpConcat, []int{u, u, id}))
	for i, id := range []int{id, within, behind} {
		x, e := show.Term(&b, id)
		what := strconv.Itoa(n) + " code points " + strconv.Itoa(i)
		if n > api.MaxShown {
			wantNone(t, what, x, e, api.ErrLong)
			continue
		}
		wantSays(t, what, x, e, []string{text, "(str.len " + text + ")", "(str.++ u u " + text + ")"}[i])
	}
}

func TestP121MostShown(t *testing.T) {
	for _, n := range []int{1, 2, 998, 999, 1000, 1001, 1002, 1024, 65536, most - 1, most} {
		wantLiteral(t, lengths(n), `"`+strings.Repeat("a", min(n, 1001))+`"`, n)
	}
	for _, n := range []int{3, 999, 1000, 1001, 1002, 65535, 65536} {
		wantLiteral(t, zigzag(n, 1), `"`+strings.Repeat("abc", n/3)+"abc"[:n%3]+`"`, n)
	}
	for _, l := range [][]int{{999, 1}, {1, 999}, {500, 500}, {300, 300, 400}, {999, 2}, {1000, 1}, {1, 1000}, {500, 501}, {1000, 1000, 1000}, {most - 1, 1}, {1, most - 1}} {
		var text strings.Builder
		n := 0
		for i, each := range l {
			text.WriteString(strings.Repeat("abc"[i%3:i%3+1], min(each, 1001)))
			n += each
		}
		wantLiteral(t, lengths(l...), `"`+text.String()+`"`, n)
	}
	// It is code points that count, not the bytes that say them.
	wantLiteral(t, []api.Run{run(0x2ffff, 1000)}, `"`+strings.Repeat(`\u{2ffff}`, 1000)+`"`, 1000)
	wantLiteral(t, []api.Run{run(0x2ffff, 1001)}, "", 1001)
	wantLiteral(t, []api.Run{run('"', 1000)}, `"`+strings.Repeat(`""`, 1000)+`"`, 1000)
	wantLiteral(t, []api.Run{run('\\', 999), run(0, 1)}, `"`+strings.Repeat(`\u{5c}`, 999)+`\u{0}"`, 1000)
}

func TestP121TwoFaults(t *testing.T) {
	var b term.Bank
	s := sure(t)(b.Str(lengths(1001)))
	far := sure(t)(b.App(api.OpEq, []int{s, s}))
	deep, large := nots(t, &b, 65), sized(t, &b, 2001)
	for range 65 {
		far = sure(t)(b.App(api.OpNot, []int{far}))
	}
	for _, parts := range [][]int{{far, far}, {deep, large}, {large, deep}, {far, large}, {large, far}, {deep, far, large}} {
		x, e := show.Term(&b, sure(t)(b.App(api.OpAnd, parts)))
		wantNone(t, "two faults", x, e, api.ErrLong)
	}
}

// One term may stand among the parts of one that is told again and again.
func TestP121OneTermManyTimes(t *testing.T) {
	var b term.Bank
	x := sure(t)(b.Const("x", api.SortInt))
	sum := sure(t)(b.App(api.OpAdd, []int{x, x}))
	parts := make([]int, 199)
	for i := range parts {
		parts[i] = sum
	}
	got, e := show.Term(&b, sure(t)(b.App(api.OpLe, parts)))
	wantSays(t, "many times", got, e, "(<="+strings.Repeat(" (+ x x)", 199)+")")
	// A number of many digits is no more than one atom wherever it stands.
	limbs := make([]uint32, 3000)
	limbs[2999] = 7
	n := sure(t)(b.Num(api.Whole{N: limbs}))
	all := make([]int, 200)
	for i := range all {
		all[i] = n
	}
	nine := []int{}
	for op := range 9 {
		all[0] = []int{x, n, sum, x, n, sum, x, n, sum}[op]
		nine = append(nine, sure(t)(b.App(api.OpAdd, all)))
	}
	wantTold(t, "many digits", &b, sure(t)(b.App(api.OpSub, nine)), 2+9*202+3*3)
}
