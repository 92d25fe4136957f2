package lit_test

import (
	"slices"
	"testing"

	"gudgeon/api"
	"gudgeon/lit"
)

const said = `a\u{62}\u{62}bb\u0063\ux`

// spare is a list with room behind its end, in which something stands.
func spare[T any](l []T, behind T) []T {
	return append(slices.Clone(l), behind, behind, behind)[:len(l)]
}

// wantKept complains if a list, or what stands behind its end, is other than it was.
func wantKept[T comparable](t *testing.T, what string, l, kept []T, behind T) {
	t.Helper()
	if !slices.Equal(l, kept) || !slices.Equal(l[:len(l)+3][len(l):], []T{behind, behind, behind}) {
		t.Errorf("%s: %v behind %v, which was %v", what, l[:len(l)+3][len(l):], l, kept)
	}
}

// What is handed in stays as it was.
func TestR3WhatIsHandedIn(t *testing.T) {
	for _, l := range [][]int{{}, {97}, {97, 97, 98, 92, 0, 196607}, {97, 97, 196608}, {-1, 97, 97}, zigzag(65537)} {
		mine := spare(l, 97)
		lit.Escape(mine)
		wantKept(t, "Escape", mine, l, 97)
		lit.Runs(mine)
		wantKept(t, "Runs", mine, l, 97)
	}
	for _, s := range [][]api.Run{{}, {run(97, 2)}, {run(97, 2), run(97, 1), run(98, 3)}, {run(97, 2), run(98, 0)}, {run(-1, 2), run(98, 1)}} {
		for _, most := range []int{-1, 0, 1, 2, 3, 6, 100} {
			mine := spare(s, run(99, 5))
			lit.List(mine, most)
			wantKept(t, "List", mine, s, run(99, 5))
		}
	}
}

// Who changes what was handed in changes nothing of what was answered.
func TestR3ChangingWhatWasHandedIn(t *testing.T) {
	l := []int{97, 97, 98, 92}
	s, _ := lit.Escape(l)
	runs, _ := lit.Runs(l)
	clear(l)
	if s != `aab\u{5c}` || !slices.Equal(runs, []api.Run{run(97, 2), run(98, 1), run(92, 1)}) {
		t.Errorf("%q, %v", s, runs)
	}
	listed, _ := lit.List(runs, 4)
	clear(runs)
	if !slices.Equal(listed, []int{97, 97, 98, 92}) {
		t.Errorf("%v", listed)
	}
}

// spoil changes all of a list, and all of the room behind it.
func spoil[T any](l []T, by T) {
	l = append(l, by, by)
	l = l[:cap(l)]
	for i := range l {
		l[i] = by
	}
}

// Who changes one list that was answered changes no other one, nor what was handed in.
func TestR3ListsAreTheCallersOwn(t *testing.T) {
	a, b := lit.Points(said), lit.Points(said)
	spoil(a, -5)
	want := []int{97, 98, 98, 98, 98, 99, 92, 117, 120}
	if !slices.Equal(b, want) {
		t.Errorf("Points: %v", b)
	}
	wantPoints(t, said, want...)

	text := []api.Run{run(97, 1), run(98, 4), run(99, 1), run(92, 1), run(117, 1), run(120, 1)}
	r, _ := lit.Runs(b)
	q, _ := lit.Runs(b)
	spoil(r, run(-5, -5))
	if !slices.Equal(q, text) || !slices.Equal(b, want) {
		t.Errorf("Runs: %v of %v", q, b)
	}
	wantRuns(t, b, text...)

	m, _ := lit.List(q, 9)
	n, _ := lit.List(q, 9)
	spoil(m, -5)
	if !slices.Equal(n, want) || !slices.Equal(q, text) {
		t.Errorf("List: %v of %v", n, q)
	}
	wantList(t, q, want...)
}

// The same call answers the same, whatever was asked ahead.
func TestR5TheSameAnswers(t *testing.T) {
	for range 20 {
		lit.Points(`\u{`)
		wantNoLiteral(t, 97, -1)
		wantNoRuns(t, api.ErrLong, zigzag(65537)...)
		wantNoList(t, api.ErrLong, 5, run(97, 6))
		wantPoints(t, said, 97, 98, 98, 98, 98, 99, 92, 117, 120)
		wantLiteral(t, []int{97, 10, 92}, `a\u{a}\u{5c}`)
		wantRuns(t, []int{97, 97, 98}, run(97, 2), run(98, 1))
		wantList(t, []api.Run{run(97, 2), run(98, 1)}, 97, 97, 98)
	}
}
