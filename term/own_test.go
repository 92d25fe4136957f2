package term_test

import (
	"slices"
	"testing"

	"gudgeon/api"
	"gudgeon/term"
)

// spare is a list with room behind its end, in which something stands.
func spare[T any](behind T, l ...T) []T {
	return append(slices.Clone(l), behind, behind, behind)[:len(l)]
}

// wantKept complains if a list, or what stands behind its end, is other than it was.
func wantKept[T comparable](t *testing.T, what string, l, kept []T, behind T) {
	t.Helper()
	room := l[:len(l)+3][len(l):]
	if !slices.Equal(l, kept) || !slices.Equal(room, []T{behind, behind, behind}) {
		t.Errorf("%s: %v behind %v, which was %v", what, room, l, kept)
	}
}

// spoil changes all of a list, and all of the room behind it.
func spoil[T any](l []T, x T) {
	l = l[:cap(l)]
	for i := range l {
		l[i] = x
	}
}

// spoilNode changes all that a term's lists have, and have room for.
func spoilNode(n api.Node) {
	spoil(n.A, 99)
	spoil(n.Num.N, 99)
	spoil(n.Str, run(99, 99))
}

func TestR3WhatIsHandedIn(t *testing.T) {
	b := &term.Bank{}
	b.Const("x", api.SortInt)
	b.Const("y", api.SortInt)
	for range 2 {
		for _, l := range [][]int{{0, 1}, {1, 0, 1}, {0}, {0, 7}, {-1, 0}, {}} {
			for _, op := range append(noOps(), allOps()...) {
				a := spare(-7, l...)
				b.App(op, a)
				wantKept(t, "App", a, l, -7)
			}
		}
		for _, l := range [][]uint32{{5}, {5, 0, 0}, {0, 0}, {}, {1, 2, 3, 0}} {
			for _, neg := range []bool{false, true} {
				n := spare(77, l...)
				b.Num(api.Whole{Neg: neg, N: n})
				wantKept(t, "Num", n, l, 77)
			}
		}
		for _, l := range [][]api.Run{{run(97, 1)}, {run(97, 1), run(98, 5)}, {}, {run(97, 1), run(97, 1)}, {run(97, 0)}} {
			s := spare(run(120, 5), l...)
			b.Str(s)
			wantKept(t, "Str", s, l, run(120, 5))
		}
	}
}

// A term stays as it is, whatever becomes of what was handed in.
func TestR3TermsStay(t *testing.T) {
	x := newBanks(t)
	x.stock()
	n, s, a := spare[uint32](0, 5, 6, 0), spare(run(98, 1), run(97, 1), run(98, 2)), spare(2, 2, 3, 2)
	num, _ := x.b.Num(api.Whole{N: n})
	str, _ := x.b.Str(s)
	sum, _ := x.b.App(api.OpAdd, a)
	x.m.add(api.Node{Op: api.OpNum, Sort: api.SortInt, Num: api.Whole{N: []uint32{5, 6}}})
	x.m.add(api.Node{Op: api.OpStr, Sort: api.SortStr, Str: []api.Run{run(97, 1), run(98, 2)}})
	x.m.add(api.Node{Op: api.OpAdd, Sort: api.SortInt, A: []int{2, 3, 2}})
	x.wantAll()
	spoil(n, 8)
	spoil(s, run(97, 9))
	spoil(a, 7)
	x.wantAll()
	// What was changed is another term, what was not is there.
	if x.number(5, 6) != num || x.text(run(97, 1), run(98, 2)) != str || x.wantApp(api.OpAdd, 2, 3, 2) != sum {
		t.Error("other numbers than ahead")
	}
	if x.number(n...) != sum+1 || x.text(s[:1]...) != sum+2 || x.wantApp(api.OpAdd, a...) != sum+3 {
		t.Error("what was changed is one that was there")
	}
	x.wantAll()
}

// What At answered is the caller's own, also its room, and no two answers share any.
func TestR3AnswersAreTheCallersOwn(t *testing.T) {
	x := newBanks(t)
	x.stock()
	x.number(1, 2, 3, 4, 5)
	x.text(run(97, 1), run(98, 2), run(97, 1), run(98, 2), run(97, 1))
	x.wantApp(api.OpAdd, 2, 3, 2, 3, 2, 6, 7)
	for id := range x.b.Len() {
		first, _ := x.b.At(id)
		second, _ := x.b.At(id)
		spoilNode(first)
		if !one(second, x.m.terms[id]) {
			t.Errorf("%d: %v", id, second)
		}
		spoilNode(second)
		x.wantAll()
		_ = append(append(second.A, 1), 2)
		_ = append(append(second.Str, run(1, 1)), run(2, 2))
		_ = append(append(second.Num.N, 1), 2)
		x.wantAll()
	}
	wantLaws(t, x.b)
}

// What was told may be handed in, and changed then.
func TestR3WhatWasTold(t *testing.T) {
	x := newBanks(t)
	x.stock()
	sum := x.wantApp(api.OpAdd, 2, 3)
	n, _ := x.b.At(sum)
	product, _ := x.b.App(api.OpLe, n.A)
	x.m.add(api.Node{Op: api.OpLe, Sort: api.SortBool, A: []int{2, 3}})
	spoilNode(n)
	x.wantAll()
	if got, _ := x.b.At(product); !slices.Equal(got.A, []int{2, 3}) {
		t.Errorf("%v", got)
	}
}

// The same call answers the same, whatever was asked ahead, and however many terms came.
func TestR5TheSameAnswers(t *testing.T) {
	x := newBanks(t)
	x.stock()
	sum := x.wantApp(api.OpAdd, 2, 7)
	for i := range 200 {
		x.wantError(api.ErrArg, api.OpAdd, 2, x.b.Len())
		x.wantError(api.ErrOp, api.OpMul, 2, 3)
		x.number(uint32(100 + i))
		if x.wantApp(api.OpAdd, 2, 7) != sum || x.number(7) != 7 || x.text(run(97, 3)) != 13 || x.constant("a", api.SortStr) != 4 {
			t.Fatal("another number than ahead")
		}
	}
	x.wantAll()
}
