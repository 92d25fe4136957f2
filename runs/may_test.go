package runs_test

import (
	"math"
	"testing"

	"gudgeon/api"
	"gudgeon/runs"
)

// wantMay complains if a text may not be, or is not that long.
func wantMay(t *testing.T, s []api.Run, n int) {
	t.Helper()
	if !runs.May(s) {
		t.Errorf("May(%v): false", some(s))
	}
	if got := runs.Len(s); got != n {
		t.Errorf("Len(%v): %d, not %d", some(s), got, n)
	}
	if !runs.Same(s, s) {
		t.Errorf("Same(%v, itself): false", some(s))
	}
}

func TestP81Texts(t *testing.T) {
	wantMay(t, nil, 0)
	wantMay(t, []api.Run{}, 0)
	wantMay(t, text("a"), 1)
	wantMay(t, text("aaab"), 4)
	wantMay(t, text("abba"), 4)
	wantMay(t, text("abcabcc"), 7)
	wantMay(t, []api.Run{run(97, 5), run(98, 7), run(97, 5)}, 17)
}

func TestP81CodePoints(t *testing.T) {
	for _, c := range []int{0, 1, 31, 32, 92, 127, 255, 0xd800, 65535, 65536, 196606, 196607} {
		wantMay(t, []api.Run{run(c, 1)}, 1)
		wantMay(t, []api.Run{run(c, 3), run(97, 1), run(c, 2)}, 6)
		wantMay(t, []api.Run{run(98, 3), run(c, 2)}, 5)
	}
}

func TestP81Longest(t *testing.T) {
	wantMay(t, []api.Run{run(97, most)}, most)
	wantMay(t, []api.Run{run(97, most-1)}, most-1)
	wantMay(t, []api.Run{run(97, most-1), run(98, 1)}, most)
	wantMay(t, []api.Run{run(97, 1), run(98, most-1)}, most)
	wantMay(t, []api.Run{run(97, 1), run(98, most-2), run(97, 1)}, most)
	wantMay(t, []api.Run{run(97, most/2), run(98, most/2)}, most)
	wantMay(t, zigzag(65536, 1<<24), most)
}

func TestP81MostRuns(t *testing.T) {
	wantMay(t, zigzag(65535, 1), 65535)
	wantMay(t, zigzag(65536, 1), 65536)
	wantMay(t, zigzag(65536, 2), 131072)
	if runs.May(zigzag(65537, 1)) || runs.Len(zigzag(65537, 1)) != 0 {
		t.Error("65537 runs may be")
	}
}

func TestP81WrongTexts(t *testing.T) {
	for _, w := range wrongTexts() {
		if runs.May(w) {
			t.Errorf("May(%v): true", some(w))
		}
		if n := runs.Len(w); n != 0 {
			t.Errorf("Len(%v): %d", some(w), n)
		}
		if runs.Same(w, w) {
			t.Errorf("Same(%v, itself): true", some(w))
		}
		for _, s := range rightTexts() {
			if runs.Same(w, s) || runs.Same(s, w) {
				t.Errorf("Same(%v, %v): true", some(w), some(s))
			}
		}
	}
}

func TestP81Same(t *testing.T) {
	l := rightTexts()
	for i, a := range l {
		for j, b := range l {
			// Nil and empty are both nothing.
			want := i == j || i+j == 1
			if got := runs.Same(a, b); got != want {
				t.Errorf("Same(%v, %v): %v", some(a), some(b), got)
			}
		}
	}
	if !runs.Same(text("aaab"), []api.Run{run(97, 3), run(98, 1)}) {
		t.Error("aaab is not 3 a, 1 b")
	}
}

func TestP81Unlike(t *testing.T) {
	s := []api.Run{run(97, 3), run(98, 1), run(97, 2)}
	for _, u := range [][]api.Run{
		{run(97, 3), run(98, 1)}, {run(98, 1), run(97, 2)}, {run(97, 3), run(98, 1), run(97, 1)}, {run(97, 3), run(98, 1), run(97, 3)},
		{run(97, 3), run(98, 2), run(97, 2)}, {run(97, 2), run(98, 1), run(97, 2)}, {run(97, 3), run(99, 1), run(97, 2)}, {run(97, 3), run(98, 1), run(99, 2)},
		{run(97, 3), run(98, 1), run(97, 2), run(98, 1)}, {run(97, 6)}, nil, {},
	} {
		if runs.Same(s, u) || runs.Same(u, s) {
			t.Errorf("Same(%v, %v): true", s, u)
		}
	}
}

// What says the same code points in another form is no text, so it is the same as none.
func TestP81SameInAnotherForm(t *testing.T) {
	a := []api.Run{run(97, 2)}
	for _, b := range [][]api.Run{{run(97, 1), run(97, 1)}, {run(97, 2), run(98, 0)}, {run(98, 0), run(97, 2)}, {run(97, math.MaxInt), run(97, math.MaxInt), run(97, 4)}} {
		if runs.Same(a, b) || runs.Same(b, a) || runs.Same(b, b) {
			t.Errorf("Same(%v, %v): true", a, b)
		}
	}
	if runs.Same([]api.Run{run(97, 0)}, nil) || runs.Same(nil, []api.Run{{}}) {
		t.Error("a run of none is the same as nothing")
	}
}
