package term_test

import (
	"math/rand"
	"slices"
	"strconv"
	"strings"
	"testing"

	"gudgeon/api"
	"gudgeon/term"
)

func TestP93At(t *testing.T) {
	x := newBanks(t)
	for _, id := range noNumbers(0) {
		wantNone(t, x.b, id)
	}
	x.stock()
	for _, id := range noNumbers(x.b.Len()) {
		wantNone(t, x.b, id)
	}
	x.wantAll()
	// A field of which nothing is said is nothing.
	for id, f := range map[int]api.Node{
		3: {Op: api.OpConst, Sort: api.SortInt, Name: "b"}, 7: {Op: api.OpNum, Sort: api.SortInt, Num: api.Whole{N: []uint32{7}}},
		8: {Op: api.OpNeg, Sort: api.SortInt, A: []int{7}}, 12: {Op: api.OpFalse, Sort: api.SortBool}, 13: {Op: api.OpStr, Sort: api.SortStr, Str: []api.Run{run(97, 3)}},
	} {
		if n, is := x.b.At(id); !is || !one(n, f) {
			t.Errorf("%d: %v, not %v", id, n, f)
		}
	}
}

func TestP93Len(t *testing.T) {
	b := &term.Bank{}
	wantLen(t, b, 0)
	for i := range 50 {
		b.Const(strconv.Itoa(i/2), api.SortInt)
		wantLen(t, b, i/2+1)
	}
	// Asking changes nothing.
	for id := -5; id < 50; id++ {
		b.At(id)
	}
	wantLen(t, b, 25)
}

func TestP93NilBank(t *testing.T) {
	var b *term.Bank
	wantLen(t, b, 0)
	for _, id := range noNumbers(0) {
		wantNone(t, b, id)
	}
	for _, sort := range append(noSorts(), api.SortBool, api.SortInt, api.SortStr) {
		for _, name := range []string{"", "x", strings.Repeat("x", 16385)} {
			id, e := b.Const(name, sort)
			wantAnswer(t, "Const", id, e, 0, api.ErrArg)
		}
	}
	for _, v := range []bool{true, false} {
		id, e := b.Bool(v)
		wantAnswer(t, "Bool", id, e, 0, api.ErrArg)
	}
	for _, n := range append(belowNought(), api.Whole{}, api.Whole{Neg: true}, api.Whole{N: []uint32{3}}) {
		id, e := b.Num(n)
		wantAnswer(t, "Num", id, e, 0, api.ErrArg)
	}
	for _, s := range append(wrongTexts(), nil, []api.Run{}, []api.Run{run(97, 3)}) {
		id, e := b.Str(s)
		wantAnswer(t, "Str", id, e, 0, api.ErrArg)
	}
	for _, a := range [][]int{nil, {}, {0}, {0, 0}, {0, 0, 0}, {-1, 5}, make([]int, 200), make([]int, 201)} {
		for _, op := range allOps() {
			id, e := b.App(op, a)
			wantAnswer(t, "App", id, e, 0, api.ErrArg)
		}
		for _, op := range noOps() {
			id, e := b.App(op, a)
			wantAnswer(t, "App", id, e, 0, api.ErrOp)
		}
	}
	wantLen(t, b, 0)
}

// fill adds constants of Int until there are n terms.
func fill(t *testing.T, b *term.Bank, n int) {
	t.Helper()
	for i := b.Len(); i < n; i++ {
		id, e := b.Const("fill "+strconv.Itoa(i), api.SortInt)
		wantAnswer(t, "fill", id, e, i, api.OK)
	}
	wantLen(t, b, n)
}

// asked is a call that adds, and the number that it answers where all of them are there.
type asked struct {
	what string
	call func(b *term.Bank) (int, api.Errno)
}

// eachKind is a term of each kind, those ahead being parts of those behind.
func eachKind() []asked {
	return []asked{
		{"Const", func(b *term.Bank) (int, api.Errno) { return b.Const("x", api.SortInt) }},
		{"Bool true", func(b *term.Bank) (int, api.Errno) { return b.Bool(true) }},
		{"Bool false", func(b *term.Bank) (int, api.Errno) { return b.Bool(false) }},
		{"Num", func(b *term.Bank) (int, api.Errno) { return b.Num(api.Whole{N: []uint32{3}}) }},
		{"Str", func(b *term.Bank) (int, api.Errno) { return b.Str([]api.Run{run(97, 3)}) }},
		{"App", func(b *term.Bank) (int, api.Errno) { return b.App(api.OpAdd, []int{0, 3}) }},
	}
}

// wrongCalls is calls that answer an error, whatever is there, but for one more than there is room for.
func wrongCalls(t *testing.T, b *term.Bank) {
	t.Helper()
	is := func(want api.Errno) func(int, api.Errno) {
		return func(id int, e api.Errno) {
			t.Helper()
			wantAnswer(t, "a wrong call", id, e, 0, want)
		}
	}
	is(api.ErrArg)(b.Const("new", 0))
	is(api.ErrArg)(b.Const(strings.Repeat("x", 16385), api.SortInt))
	is(api.ErrArg)(b.Num(api.Whole{Neg: true, N: []uint32{8}}))
	is(api.ErrArg)(b.Str([]api.Run{run(97, 0)}))
	is(api.ErrOp)(b.App(api.OpStr, []int{0, 3}))
	is(api.ErrArg)(b.App(api.OpNot, []int{0, 3}))
	is(api.ErrArg)(b.App(api.OpAdd, []int{0, b.Len()}))
	is(api.ErrArg)(b.App(api.OpAdd, make([]int, 201)))
	is(api.ErrSort)(b.App(api.OpAdd, []int{0, 1}))
	is(api.ErrOp)(b.App(api.OpMul, []int{0, 0}))
}

// A full bank finds what is there, refuses what is not, and tells other errors ahead of that.
func TestP91FullBank(t *testing.T) {
	b := &term.Bank{}
	for i, c := range eachKind() {
		id, e := c.call(b)
		wantAnswer(t, c.what, id, e, i, api.OK)
	}
	fill(t, b, 20000)
	for range 2 {
		for i, c := range eachKind() {
			id, e := c.call(b)
			wantAnswer(t, c.what, id, e, i, api.OK)
		}
		id, e := b.Const("fill 19999", api.SortInt)
		wantAnswer(t, "the last one", id, e, 19999, api.OK)
		for _, more := range []asked{
			{"Const", func(b *term.Bank) (int, api.Errno) { return b.Const("x", api.SortBool) }},
			{"Num", func(b *term.Bank) (int, api.Errno) { return b.Num(api.Whole{N: []uint32{4}}) }},
			{"Str", func(b *term.Bank) (int, api.Errno) { return b.Str(nil) }},
			{"App", func(b *term.Bank) (int, api.Errno) { return b.App(api.OpAdd, []int{3, 0}) }},
			{"App of the last one", func(b *term.Bank) (int, api.Errno) { return b.App(api.OpNeg, []int{19999}) }},
		} {
			id, e := more.call(b)
			wantAnswer(t, more.what, id, e, 0, api.ErrLong)
		}
		wrongCalls(t, b)
		wantLen(t, b, 20000)
		wantNone(t, b, 20000)
	}
	if n, is := b.At(19999); !is || n.Name != "fill 19999" {
		t.Errorf("the last one: %v", n)
	}
}

// Each kind may be the 20000th, and none the one behind it.
func TestP91TheLastTerm(t *testing.T) {
	for i, c := range eachKind() {
		b := &term.Bank{}
		for _, ahead := range eachKind()[:i] {
			ahead.call(b)
		}
		fill(t, b, 19999)
		for range 2 {
			id, e := c.call(b)
			wantAnswer(t, c.what, id, e, 19999, api.OK)
		}
		for _, behind := range eachKind()[i+1:] {
			id, e := behind.call(b)
			wantAnswer(t, behind.what, id, e, 0, api.ErrLong)
		}
		wantLen(t, b, 20000)
	}
}

// Each term upon the one ahead, as many as there may be.
func TestP91DeepestTerm(t *testing.T) {
	b := &term.Bank{}
	b.Const("p", api.SortBool)
	for i := range 19999 {
		id, e := b.App(api.OpNot, []int{i})
		wantAnswer(t, "not", id, e, i+1, api.OK)
	}
	id, e := b.App(api.OpNot, []int{19999})
	wantAnswer(t, "one more", id, e, 0, api.ErrLong)
	id, e = b.App(api.OpNot, []int{19998})
	wantAnswer(t, "the last one", id, e, 19999, api.OK)
}

// anyCall makes some call of both, right or wrong.
func (x *banks) anyCall(r *rand.Rand) {
	x.t.Helper()
	switch r.Intn(12) {
	case 0:
		x.constant([]string{"", "x", "y", "1", "1,2", "12"}[r.Intn(6)], r.Intn(5))
	case 1:
		x.truth(r.Intn(2) == 0)
	case 2:
		l := make([]uint32, r.Intn(4))
		for i := range l {
			l[i] = uint32(r.Intn(13))
		}
		x.number(l...)
	case 3:
		var l []api.Run
		for i := range r.Intn(4) {
			l = append(l, run(12*(i%2)+r.Intn(12), 1+r.Intn(12)))
		}
		x.text(l...)
	default:
		a := make([]int, 1+r.Intn(4))
		for i := range a {
			a[i] = r.Intn(x.b.Len()+2) - r.Intn(10)/9
		}
		x.app(r.Intn(api.Ops+1), a...)
	}
}

// Any calls answer as the bank told anew does.
func TestP91P92P93AnyCalls(t *testing.T) {
	for seed := range 20 {
		r := rand.New(rand.NewSource(int64(seed)))
		x := newBanks(t)
		for range 3000 {
			x.anyCall(r)
		}
		x.wantAll()
		wantLaws(t, x.b)
		if x.b.Len() < 300 {
			t.Errorf("no more than %d terms", x.b.Len())
		}
	}
}

// wantLaws complains if two terms are one, a part has no lesser number, or a term, asked for once more, has another one.
func wantLaws(t *testing.T, b *term.Bank) {
	t.Helper()
	var l []api.Node
	for id := range b.Len() {
		n, is := b.At(id)
		if !is {
			t.Errorf("there is no %d", id)
		}
		if slices.ContainsFunc(l, func(x api.Node) bool { return one(x, n) }) {
			t.Errorf("%v is there twice", n)
		}
		l = append(l, n)
		for _, p := range n.A {
			if p < 0 || p >= id {
				t.Errorf("%d has the part %d", id, p)
			}
		}
		again, e := askAgain(b, n)
		wantAnswer(t, "once more", again, e, id, api.OK)
	}
	wantLen(t, b, len(l))
}

// askAgain asks for a term, as it was told.
func askAgain(b *term.Bank, n api.Node) (int, api.Errno) {
	switch n.Op {
	case api.OpConst:
		return b.Const(n.Name, n.Sort)
	case api.OpTrue, api.OpFalse:
		return b.Bool(n.Op == api.OpTrue)
	case api.OpNum:
		return b.Num(n.Num)
	case api.OpStr:
		return b.Str(n.Str)
	}
	return b.App(n.Op, n.A)
}

// Terms of one bank, told to another one in their order, have the same numbers there.
func TestP94AnotherBank(t *testing.T) {
	x := newBanks(t)
	r := rand.New(rand.NewSource(94))
	for range 5000 {
		x.anyCall(r)
	}
	other := &term.Bank{}
	for id := range x.b.Len() {
		n, _ := x.b.At(id)
		got, e := askAgain(other, n)
		wantAnswer(t, "told to another bank", got, e, id, api.OK)
	}
	wantLaws(t, other)
	// What one of them gets the other one hasn't.
	was := x.b.Len()
	other.Const("only here", api.SortStr)
	wantLen(t, other, was+1)
	wantLen(t, x.b, was)
	wantNone(t, x.b, was)
}
