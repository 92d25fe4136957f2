package term_test

import (
	"math"
	"slices"
	"testing"

	"gudgeon/api"
)

func TestP92Example(t *testing.T) {
	x := newBanks(t)
	if id := x.constant("x", api.SortInt); id != 0 {
		t.Errorf("x: %d", id)
	}
	if id := x.number(3); id != 1 {
		t.Errorf("3: %d", id)
	}
	if a, b := x.wantApp(api.OpAdd, 0, 1), x.wantApp(api.OpAdd, 0, 1); a != 2 || b != 2 {
		t.Errorf("x and 3: %d %d", a, b)
	}
	x.wantError(api.ErrSort, api.OpConcat, 0, 0)
	x.wantError(api.ErrOp, api.OpMul, 0, 0)
	if id := x.wantApp(api.OpMul, 0, 1); id != 3 {
		t.Errorf("3 x: %d", id)
	}
	wantLen(t, x.b, 4)
}

// Some levels of terms upon one another, told one by one.
func TestP92Levels(t *testing.T) {
	x := newBanks(t)
	s, u := x.constant("s", api.SortStr), x.constant("t", api.SortStr)
	n, two, a := x.constant("n", api.SortInt), x.number(2), x.text(run(97, 1))
	whole := x.wantApp(api.OpConcat, s, a, u)
	long := x.wantApp(api.OpLen, whole)
	twice := x.wantApp(api.OpMul, two, long)
	least := x.wantApp(api.OpLe, n, twice, two)
	piece := x.wantApp(api.OpSubstr, whole, n, two)
	chosen := x.wantApp(api.OpIte, least, piece, u)
	claim := x.wantApp(api.OpEq, chosen, s)
	all := x.wantApp(api.OpAnd, claim, least, x.wantApp(api.OpNot, claim))
	got, is := x.b.At(all)
	if !is || got.Op != api.OpAnd || got.Sort != api.SortBool || !slices.Equal(got.A, []int{claim, least, all - 1}) || all != 13 {
		t.Errorf("%d: %v", all, got)
	}
	// Said once more, all of it is there.
	for range 2 {
		if again := x.wantApp(api.OpIte, least, x.wantApp(api.OpSubstr, x.wantApp(api.OpConcat, s, a, u), n, two), u); again != chosen {
			t.Errorf("%d, not %d", again, chosen)
		}
	}
	wantLen(t, x.b, 14)
	x.wantAll()
}

func TestP92NoOperations(t *testing.T) {
	x := newBanks(t)
	x.stock()
	was := x.b.Len()
	for _, op := range noOps() {
		for _, a := range [][]int{nil, {}, {0}, {0, 1}, {2, 3}, {4, 5}, {0, 4, 5}, {-1}, {math.MaxInt, 0}, {4, 2}, make([]int, 200), make([]int, 201), {2, 2, 2, 2}} {
			x.wantError(api.ErrOp, op, a...)
		}
	}
	wantLen(t, x.b, was)
	if len(allOps()) != len(rules()) || len(allOps()) != 25 {
		t.Errorf("%d operations, %d rules", len(allOps()), len(rules()))
	}
}

// stock is two constants of each sort: 0 and 1 of Bool, 2 and 3 of Int, 4 and 5 of String; and, from 6
// on, the numbers 0 and 7, the contrary of 7, and of a constant, and of that contrary, truths and a text.
func (x *banks) stock() {
	x.t.Helper()
	for _, sort := range []int{api.SortBool, api.SortInt, api.SortStr} {
		x.constant("a", sort)
		x.constant("b", sort)
	}
	x.number()
	x.number(7)
	x.wantApp(api.OpNeg, 7)
	x.wantApp(api.OpNeg, 2)
	x.wantApp(api.OpNeg, 8)
	x.truth(true)
	x.truth(false)
	x.text(run(97, 3))
}

// lists is all lists of n of these.
func lists(of []int, n int) [][]int {
	l := [][]int{{}}
	for range n {
		var next [][]int
		for _, a := range l {
			for _, id := range of {
				next = append(next, append(slices.Clone(a), id))
			}
		}
		l = next
	}
	return l
}

// Each operation with each number of parts, each of them of each sort.
func TestP92AllSorts(t *testing.T) {
	for _, op := range allOps() {
		x := newBanks(t)
		x.stock()
		for n := range 5 {
			for _, a := range lists([]int{0, 2, 4}, n) {
				x.app(op, a...)
			}
		}
		// And two of one sort that are not one.
		for n := range 4 {
			for _, a := range lists([]int{1, 3, 5, 13, 6}, n) {
				x.app(op, a...)
			}
		}
		x.wantAll()
	}
}

// How many parts each operation asks.
func TestP92NumberOfParts(t *testing.T) {
	right := map[int][]int{
		api.OpNot: {0}, api.OpIte: {0, 2, 3}, api.OpNeg: {2}, api.OpLen: {4}, api.OpAt: {4, 2}, api.OpSubstr: {4, 2, 3},
		api.OpPrefix: {4, 5}, api.OpSuffix: {4, 5}, api.OpContains: {4, 5}, api.OpIndex: {4, 5, 2}, api.OpReplace: {4, 5, 4},
	}
	for _, op := range allOps() {
		x := newBanks(t)
		x.stock()
		a, bound := right[op]
		if !bound {
			wantMany(x, op)
			continue
		}
		x.wantApp(op, a...)
		for n := range 6 {
			if n != len(a) {
				x.wantError(api.ErrArg, op, slices.Repeat(a, 6)[:n]...)
			}
		}
		for _, n := range []int{199, 200, 201, 202, 256 + len(a), 1000, 1<<16 + len(a)} {
			x.wantError(api.ErrArg, op, slices.Repeat(a, n)[:n]...)
		}
	}
}

// wantMany complains if an operation has not two parts or more, up to 200, all of one sort.
func wantMany(x *banks, op int) {
	x.t.Helper()
	id := map[byte]int{'B': 0, 'I': 7, 'S': 4, '*': 4}
	r, _ := ruleOf(op)
	a := slices.Repeat([]int{id[r.parts[0]]}, 70000)
	for _, n := range []int{2, 3, 4, 5, 10, 100, 199, 200} {
		x.wantApp(op, a[:n]...)
	}
	for _, n := range []int{0, 1, 201, 202, 256, 257, 258, 1000, 65536, 65538} {
		x.wantError(api.ErrArg, op, a[:n]...)
	}
}

// Of 200 parts the first, the last or one in the middle is of another sort.
func TestP92OneOfManyIsOfAnotherSort(t *testing.T) {
	ids := map[byte]int{'B': 0, 'I': 7, 'S': 4}
	for _, r := range rules() {
		if r.parts[1:] != "+" {
			continue
		}
		x := newBanks(t)
		x.stock()
		for letter, id := range ids {
			if r.parts[0] != '*' && r.parts[0] != letter {
				x.wantError(api.ErrSort, r.op, slices.Repeat([]int{id}, 200)...)
				continue
			}
			for _, other := range []int{0, 7, 4} {
				if other == id {
					continue
				}
				for _, n := range []int{2, 3, 4, 5, 200} {
					for _, at := range []int{0, 1, 2, 3, n / 2, n - 2, n - 1} {
						a := slices.Repeat([]int{id}, n)
						a[min(at, n-1)] = other
						x.wantError(api.ErrSort, r.op, a...)
					}
				}
			}
		}
	}
}

// Parts that are no terms' numbers, at each place, with parts of any sorts beside them.
func TestP92PartsThatAreNone(t *testing.T) {
	for _, op := range allOps() {
		x := newBanks(t)
		x.stock()
		was := x.b.Len()
		for _, none := range noNumbers(was) {
			for n := 1; n <= 4; n++ {
				for _, a := range lists([]int{0, 2, 4}, n-1) {
					for at := range n {
						x.wantError(api.ErrArg, op, slices.Insert(slices.Clone(a), at, none)...)
					}
				}
			}
			for _, at := range []int{0, 1, 100, 199} {
				a := slices.Repeat([]int{7}, 200)
				a[at] = none
				x.wantError(api.ErrArg, op, a...)
			}
		}
		wantLen(t, x.b, was)
	}
}

// In a bank without terms no number is one's.
func TestP92EmptyBank(t *testing.T) {
	x := newBanks(t)
	for _, op := range allOps() {
		for n := range 4 {
			for _, a := range lists([]int{-1, 0, 1}, n) {
				x.wantError(api.ErrArg, op, a...)
			}
		}
	}
	for _, op := range noOps() {
		x.wantError(api.ErrOp, op, 0, 0)
	}
	wantLen(t, x.b, 0)
}

// What an operation makes is of its own sort: it may stand where that is asked.
func TestP92OwnSorts(t *testing.T) {
	for _, r := range rules() {
		x := newBanks(t)
		x.stock()
		made := 0
		for n := range 4 {
			for _, a := range lists([]int{0, 7, 4}, n) {
				id, e := x.app(r.op, a...)
				if e != api.OK {
					continue
				}
				made++
				got, _ := x.b.At(id)
				want := sortOf(r.own)
				if r.own == '*' {
					y, _ := x.b.At(a[len(a)-1])
					want = y.Sort
				}
				if got.Sort != want || got.Op != r.op || !slices.Equal(got.A, a) {
					t.Errorf("the operation %d of %v: %v, not of the sort %d", r.op, a, got, want)
				}
				beside := map[int]int{api.SortBool: 0, api.SortInt: 2, api.SortStr: 4}
				x.wantApp(api.OpEq, id, beside[want])
				x.wantError(api.ErrSort, api.OpEq, id, beside[want%3+1])
			}
		}
		if made == 0 {
			t.Errorf("nothing is made by the operation %d", r.op)
		}
	}
}

func TestP92OneSortOrTwo(t *testing.T) {
	x := newBanks(t)
	x.stock()
	ids := map[int]int{api.SortBool: 0, api.SortInt: 2, api.SortStr: 4}
	for sort, id := range ids {
		for _, op := range []int{api.OpEq, api.OpDistinct} {
			for _, a := range [][]int{{id, id}, {id, id + 1}, {id, id + 1, id}, slices.Repeat([]int{id, id + 1}, 100)} {
				got, _ := x.b.At(x.wantApp(op, a...))
				if got.Sort != api.SortBool {
					t.Errorf("%v: %v", a, got)
				}
			}
		}
		got, _ := x.b.At(x.wantApp(api.OpIte, 0, id, id+1))
		if got.Sort != sort {
			t.Errorf("%v", got)
		}
		for other, ad := range ids {
			if other == sort {
				continue
			}
			x.wantError(api.ErrSort, api.OpIte, 0, id, ad)
			if other != api.SortBool {
				x.wantError(api.ErrSort, api.OpIte, ad, id, id)
			}
			for _, op := range []int{api.OpEq, api.OpDistinct} {
				x.wantError(api.ErrSort, op, id, ad)
				x.wantError(api.ErrSort, op, id, id, ad)
				x.wantError(api.ErrSort, op, id, ad, id)
				x.wantError(api.ErrSort, op, ad, id, id)
			}
		}
	}
}

// OpMul of up to five parts that are numbers, contraries of numbers, or neither.
func TestP92Mul(t *testing.T) {
	x := newBanks(t)
	x.stock()
	// 2 and 3 are constants, 6 and 7 numbers, 8 the contrary of one; 9 is that of a constant, 10 that of 8.
	for n := range 5 {
		for _, a := range lists([]int{2, 3, 6, 7, 8, 9, 10}, n) {
			x.app(api.OpMul, a...)
		}
	}
	x.wantApp(api.OpMul, 7, 7)
	x.wantApp(api.OpMul, 7, 8)
	x.wantApp(api.OpMul, 8, 8, 6)
	x.wantApp(api.OpMul, 2, 8)
	x.wantApp(api.OpMul, 9, 7)
	x.wantApp(api.OpMul, 7, 10)
	x.wantError(api.ErrOp, api.OpMul, 2, 2)
	x.wantError(api.ErrOp, api.OpMul, 2, 9)
	x.wantError(api.ErrOp, api.OpMul, 10, 10)
	x.wantError(api.ErrOp, api.OpMul, 9, 10, 8)
	// What is made of numbers is no number.
	sum := x.wantApp(api.OpAdd, 7, 7)
	x.wantApp(api.OpMul, sum, 7)
	x.wantError(api.ErrOp, api.OpMul, sum, 2)
	x.wantError(api.ErrOp, api.OpMul, sum, x.wantApp(api.OpNeg, sum))
	product := x.wantApp(api.OpMul, 7, 8)
	x.wantError(api.ErrOp, api.OpMul, product, product)
	x.wantError(api.ErrOp, api.OpMul, x.wantApp(api.OpIte, 0, 7, 7), 3)
	x.wantError(api.ErrOp, api.OpMul, x.wantApp(api.OpLen, 13), 3)
	x.wantApp(api.OpMul, x.wantApp(api.OpIndex, 4, 5, 2), 8)
	x.wantAll()
}

func TestP92MulOfMany(t *testing.T) {
	x := newBanks(t)
	x.stock()
	for _, at := range []int{0, 1, 77, 198} {
		a := slices.Repeat([]int{7, 8}, 100)
		x.wantApp(api.OpMul, a...)
		a[at] = 2
		x.wantApp(api.OpMul, a...)
		a[199] = 9
		x.wantError(api.ErrOp, api.OpMul, a...)
		// Another operation of these is none the worse for it.
		x.wantApp(api.OpAdd, a...)
	}
}

// Parts in another order, or more often, are other parts.
func TestP92PartsTellTerms(t *testing.T) {
	x := newBanks(t)
	for i := range 130 {
		x.constant(digits(i), api.SortInt)
	}
	was := x.b.Len()
	l := [][]int{
		{1, 2}, {2, 1}, {1, 1}, {2, 2}, {1, 2, 1}, {1, 1, 2}, {1, 2, 2}, {12, 1}, {1, 21}, {1, 12}, {11, 2}, {1, 1, 12}, {11, 12}, {111, 2}, {1, 112}, {112, 1}, {1, 1, 1, 2}, {0, 1}, {1, 0}, {0, 0}, {0, 0, 1}, {0, 0, 0}, {10, 0}, {1, 0, 0}, {100, 0}, {10, 10}, {44, 44},
	}
	for _, op := range []int{api.OpAdd, api.OpSub, api.OpLe, api.OpEq} {
		for _, a := range l {
			n := x.b.Len()
			if id := x.wantApp(op, a...); id != n {
				t.Errorf("%v: %d, not %d", a, id, n)
			}
		}
	}
	for i, op := range []int{api.OpAdd, api.OpSub, api.OpLe, api.OpEq} {
		for j, a := range l {
			if id := x.wantApp(op, a...); id != was+i*len(l)+j {
				t.Errorf("%v again: %d", a, id)
			}
		}
	}
	x.wantAll()
}

// Where several errors would fit, the first one is told.
func TestP92FirstError(t *testing.T) {
	x := newBanks(t)
	x.stock()
	for _, c := range []struct {
		e  api.Errno
		op int
		a  []int
	}{
		{api.ErrOp, 0, []int{-1}}, {api.ErrOp, api.OpNum, nil}, {api.ErrOp, api.Ops, make([]int, 201)}, {api.ErrOp, api.OpConst, []int{99, 4, 0}},
		// Too few or too many, of wrong sorts, or none's.
		{api.ErrArg, api.OpNot, []int{2, 4}}, {api.ErrArg, api.OpNot, []int{-1, 4}}, {api.ErrArg, api.OpIte, []int{2, 4}}, {api.ErrArg, api.OpAdd, []int{0}}, {api.ErrArg, api.OpMul, slices.Repeat([]int{2}, 201)}, {api.ErrArg, api.OpMul, slices.Repeat([]int{0}, 201)}, {api.ErrArg, api.OpMul, []int{2}},
		// None's, and others of wrong sorts, ahead of it and behind.
		{api.ErrArg, api.OpAdd, []int{0, 99}}, {api.ErrArg, api.OpAdd, []int{99, 0}}, {api.ErrArg, api.OpEq, []int{0, 2, 99}}, {api.ErrArg, api.OpMul, []int{2, 2, 99}}, {api.ErrArg, api.OpMul, []int{0, 0, -1}}, {api.ErrArg, api.OpIte, []int{4, 2, -7}},
		// Products of several unknowns, of which one is not of Int.
		{api.ErrSort, api.OpMul, []int{2, 2, 0}}, {api.ErrSort, api.OpMul, []int{0, 0}}, {api.ErrSort, api.OpMul, []int{4, 2, 2}}, {api.ErrSort, api.OpMul, []int{2, 13, 2}},
		{api.ErrOp, api.OpMul, []int{2, 2, 7}},
	} {
		if id := x.wantError(c.e, c.op, c.a...); id != 0 {
			t.Errorf("%d of %s: %d", c.op, digits(c.a...), id)
		}
	}
}
