package term_test

import (
	"math"
	"slices"
	"strings"
	"testing"

	"gudgeon/api"
	"gudgeon/term"
)

func TestP91Const(t *testing.T) {
	x := newBanks(t)
	for i, c := range []struct {
		name string
		sort int
	}{{"x", api.SortInt}, {"p", api.SortBool}, {"s", api.SortStr}, {"y", api.SortInt}} {
		if id := x.constant(c.name, c.sort); id != i {
			t.Errorf("%s: %d, not %d", c.name, id, i)
		}
	}
	n, is := x.b.At(2)
	if !is || n.Op != api.OpConst || n.Sort != api.SortStr || n.Name != "s" || len(n.A) != 0 || len(n.Num.N) != 0 || n.Num.Neg || len(n.Str) != 0 {
		t.Errorf("s: %v", n)
	}
	if id := x.constant("p", api.SortBool); id != 1 {
		t.Errorf("p again: %d", id)
	}
	x.wantAll()
}

func TestP91ConstOfNoSort(t *testing.T) {
	x := newBanks(t)
	for _, sort := range noSorts() {
		for _, name := range []string{"x", "", strings.Repeat("x", 16384), strings.Repeat("x", 16385)} {
			x.constant(name, sort)
		}
	}
	wantLen(t, x.b, 0)
	x.constant("x", api.SortInt)
	for _, sort := range noSorts() {
		x.constant("x", sort)
	}
	wantLen(t, x.b, 1)
}

func TestP91ConstOneNameOfSeveralSorts(t *testing.T) {
	x := newBanks(t)
	for _, name := range []string{"x", "", "3", strings.Repeat("n", 16384)} {
		for range 2 {
			a, b, c := x.constant(name, api.SortBool), x.constant(name, api.SortInt), x.constant(name, api.SortStr)
			if a == b || a == c || b == c {
				t.Errorf("%s: %d %d %d", some(name), a, b, c)
			}
		}
	}
	wantLen(t, x.b, 12)
	x.wantAll()
}

func TestP91ConstLongNames(t *testing.T) {
	x := newBanks(t)
	long := strings.Repeat("x", 16383)
	for _, name := range []string{"", long, long + "x", long + "y", "y" + long, long + "\x00", long + "\xff"} {
		x.constant(name, api.SortInt)
		x.constant(name, api.SortStr)
	}
	wantLen(t, x.b, 14)
	for _, name := range []string{long + "xx", long + "yx", strings.Repeat("x", 1<<20), long + "ä", strings.Repeat("\x00", 16385)} {
		for _, sort := range []int{api.SortBool, api.SortInt, api.SortStr} {
			x.constant(name, sort)
		}
	}
	wantLen(t, x.b, 14)
	x.wantAll()
}

func TestP91ConstAnyBytes(t *testing.T) {
	x := newBanks(t)
	for c := range 256 {
		b := string([]byte{byte(c)})
		for _, name := range []string{b, b + b, "x" + b, b + "x", "x" + b + "y"} {
			x.constant(name, api.SortInt)
		}
	}
	// Three of these are xx.
	wantLen(t, x.b, 256*5-2)
	for _, name := range []string{"ä", "a\u0308", "é", "\u00e9", "\xef\xbf\xbd", "\xed\xa0\x80", "\xf4\x90\x80\x80", "a\x00", "a\x00\x00", "\x00a"} {
		x.constant(name, api.SortInt)
	}
	x.wantAll()
}

func TestP91ConstNamesThatDifferInLittle(t *testing.T) {
	x := newBanks(t)
	for _, name := range []string{"abc", "abd", "abb", "bbc", "acc", "ab", "a", "abcc", "abc ", " abc", "abC", "ABC", "bc", "cba", "abcabc", "abc\n", "abc\r"} {
		x.constant(name, api.SortStr)
		x.constant(name, api.SortStr)
	}
	wantLen(t, x.b, 17)
}

// A name is no number, no text, no list of parts, however it looks.
func TestP91ConstThatLooksLikeAnother(t *testing.T) {
	x := newBanks(t)
	x.number(3)
	x.number(1, 2)
	x.text(run(51, 1))
	x.text(run(1, 2))
	x.truth(true)
	x.truth(false)
	for _, name := range []string{
		"3", "3,", "[3]", "{3}", "3 ", " 3", "1,2", "1,2,", "1 2", "12", "\x03", "\x03\x00\x00\x00", "\x01\x00\x00\x00\x02\x00\x00\x00", "51,1", "51,1,", "51 1", "[{51 1}]",
		`"3"`, "true", "false", "(= x y)", "not", "4", "|3|", "OpNum", "0", "0,", "1", "11", "6,7", "6,7,", "6 7",
	} {
		for _, sort := range []int{api.SortBool, api.SortInt, api.SortStr} {
			n := x.b.Len()
			if id := x.constant(name, sort); id != n {
				t.Errorf("%s of the sort %d: %d, not %d", name, sort, id, n)
			}
		}
	}
	x.number(3)
	x.text(run(51, 1))
	x.wantAll()
}

func TestP91Bool(t *testing.T) {
	for _, first := range []bool{true, false} {
		x := newBanks(t)
		a, b := x.truth(first), x.truth(!first)
		if a != 0 || b != 1 || x.truth(!first) != 1 || x.truth(first) != 0 {
			t.Errorf("%v: %d %d", first, a, b)
		}
		n, _ := x.b.At(0)
		if first != (n.Op == api.OpTrue) || first != (n.Op != api.OpFalse) || n.Sort != api.SortBool {
			t.Errorf("%v: %v", first, n)
		}
		wantLen(t, x.b, 2)
	}
}

func TestP91Num(t *testing.T) {
	x := newBanks(t)
	many := slices.Repeat([]uint32{7}, 5000)
	for _, n := range [][]uint32{
		{}, {1}, {3}, {11}, {math.MaxUint32}, {0, 1}, {1, 0, 1}, {0, 0, 1}, {1, 1}, {1, 2}, {2, 1}, {12}, {1, 23}, {12, 3}, {123}, {1, 2, 3}, {3, 2, 1}, {0, 1 << 31}, {44}, {44, 44}, {1 + 1<<8}, {1 + 1<<16}, {1 + 1<<24}, {1 + 1<<31}, {1<<16 - 1}, {1<<31 - 1}, {1 << 31}, {1, 1 << 16}, {1, 1 << 31}, many, many[1:], append(slices.Clone(many), 1),
	} {
		was := x.b.Len()
		id := x.number(n...)
		if id != was {
			t.Errorf("%v is %d", n[:min(len(n), 8)], id)
		}
		// Noughts behind say nothing.
		for _, behind := range []int{0, 1, 2, 50} {
			if again := x.number(append(slices.Clone(n), make([]uint32, behind)...)...); again != id {
				t.Errorf("%v, and %d noughts: %d, not %d", n[:min(len(n), 8)], behind, again, id)
			}
		}
		got, _ := x.b.At(id)
		if got.Op != api.OpNum || got.Sort != api.SortInt || !slices.Equal(got.Num.N, n) || got.Num.Neg || got.Name != "" {
			t.Errorf("%v: %v", n[:min(len(n), 8)], got)
		}
	}
	x.wantAll()
}

func TestP91NumNoughtsFirst(t *testing.T) {
	x := newBanks(t)
	for i, n := range [][]uint32{{5, 0, 0}, {0, 0, 0, 0}, {0, 9, 0}} {
		if id := x.number(n...); id != i {
			t.Errorf("%v: %d", n, id)
		}
	}
	if x.number(5) != 0 || x.number() != 1 || x.number(0, 9) != 2 {
		t.Error("another number for the same number")
	}
	x.wantAll()
}

func TestP91NumNought(t *testing.T) {
	for _, first := range []bool{true, false} {
		b := &term.Bank{}
		for _, n := range [][]uint32{nil, {}, {0}, {0, 0}, make([]uint32, 100)} {
			for _, neg := range []bool{first, !first} {
				id, e := b.Num(api.Whole{Neg: neg, N: n})
				wantAnswer(t, "nought", id, e, 0, api.OK)
			}
		}
		wantLen(t, b, 1)
		n, _ := b.At(0)
		if n.Num.Neg || len(n.Num.N) != 0 || n.Op != api.OpNum {
			t.Errorf("nought: %v", n)
		}
	}
}

func TestP91NumBelowNought(t *testing.T) {
	x := newBanks(t)
	for range 2 {
		for _, n := range belowNought() {
			id, e := x.b.Num(n)
			x.want("Num below 0", id, e, 0, api.ErrArg)
		}
		// The second time it is there, but not below 0.
		x.number(3)
		x.number(1)
	}
	wantLen(t, x.b, 2)
}

func TestP91Str(t *testing.T) {
	x := newBanks(t)
	for _, s := range [][]api.Run{
		{}, {run(97, 1)}, {run(97, 2)}, {run(98, 1)}, {run(97, 1), run(98, 1)}, {run(98, 1), run(97, 1)}, {run(97, 1), run(98, 1), run(97, 1)},
		{run(0, 1)}, {run(196607, 1)}, {run(97, 1<<40)}, {run(97, 1<<40-1), run(98, 1)}, {run(97, 1), run(98, 1<<40-1)}, zigzag(65536, 1), zigzag(65535, 1), zigzag(65536, 1<<24),
	} {
		was := x.b.Len()
		if id := x.text(s...); id != was || x.text(s...) != was {
			t.Errorf("%v is %d, not %d", s[:min(len(s), 8)], id, was)
		}
		got, _ := x.b.At(was)
		if got.Op != api.OpStr || got.Sort != api.SortStr || !slices.Equal(got.Str, s) || got.Name != "" {
			t.Errorf("%v: %v", s[:min(len(s), 8)], got.Str[:min(len(got.Str), 8)])
		}
	}
	x.wantAll()
}

// Texts whose runs, behind one another, look alike.
func TestP91StrThatLooksLikeAnother(t *testing.T) {
	x := newBanks(t)
	l := [][]api.Run{
		{run(1, 11)}, {run(11, 1)}, {run(111, 1)}, {run(1, 111)}, {run(1, 1), run(11, 1)}, {run(1, 11), run(2, 1)}, {run(11, 1), run(2, 1)}, {run(1, 1), run(2, 3)}, {run(1, 12), run(3, 1)}, {run(1, 1), run(23, 1)},
		{run(12, 3)}, {run(1, 23)}, {run(123, 1)}, {run(3, 12)}, {run(1, 2), run(3, 4)}, {run(1, 2), run(4, 3)}, {run(3, 4), run(1, 2)}, {run(1, 4), run(3, 2)}, {run(12, 34)}, {run(1, 234)}, {run(123, 4)},
		{run(0, 1)}, {run(0, 10)}, {run(0, 1), run(1, 1)}, {run(10, 1)}, {run(97, 256)}, {run(97, 1)}, {run(97, 1<<32+1)}, {run(97, 1<<16+1)}, {run(65536+97, 1)}, {run(131072+97, 1)}, {run(65536, 1)},
		{run(97, 1<<32)}, {run(97, 1<<39)}, {run(97, 1), run(0, 1)}, {run(97, 1), run(0, 1), run(98, 1)}, {run(97, 1), run(98, 1)}, {run(44, 1)}, {run(44, 44)}, {run(44, 44), run(45, 44)},
	}
	for i, s := range l {
		if id := x.text(s...); id != i {
			t.Errorf("%v: %d, not %d", s, id, i)
		}
	}
	for i, s := range l {
		if id := x.text(s...); id != i {
			t.Errorf("%v again: %d, not %d", s, id, i)
		}
	}
	x.wantAll()
}

func TestP91StrNothing(t *testing.T) {
	for _, first := range [][]api.Run{nil, {}} {
		b := &term.Bank{}
		for _, s := range [][]api.Run{first, nil, {}, make([]api.Run, 0, 5)} {
			id, e := b.Str(s)
			wantAnswer(t, "nothing", id, e, 0, api.OK)
		}
		wantLen(t, b, 1)
		if n, is := b.At(0); !is || n.Op != api.OpStr || len(n.Str) != 0 {
			t.Errorf("nothing: %v", n)
		}
	}
}

func TestP91StrThatMayNotBe(t *testing.T) {
	x := newBanks(t)
	for range 2 {
		for _, s := range wrongTexts() {
			id, e := x.b.Str(s)
			x.want("a text that may not be", id, e, 0, api.ErrArg)
		}
		x.text(run(97, 2))
	}
	wantLen(t, x.b, 1)
}

// The number 3, the text 3, the constants 3, and all that is made of nothing.
func TestP91OneLookManyTerms(t *testing.T) {
	x := newBanks(t)
	for range 3 {
		x.number(3)
		x.text(run('3', 1))
		x.constant("3", api.SortInt)
		x.constant("3", api.SortStr)
		x.constant("3", api.SortBool)
		x.number()
		x.text()
		x.constant("", api.SortInt)
		x.constant("", api.SortStr)
		x.constant("", api.SortBool)
		x.truth(true)
		x.truth(false)
		// The limbs 97 and 1, and one a.
		x.number(97, 1)
		x.text(run(97, 1))
		x.wantApp(api.OpAnd, 10, 11)
		x.number(10, 11)
		x.text(run(10, 11))
		x.constant("10,11,", api.SortBool)
	}
	wantLen(t, x.b, 18)
	x.wantAll()
}
