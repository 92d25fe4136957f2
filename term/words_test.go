package term_test

import (
	"math"
	"slices"
	"strconv"
	"strings"
	"testing"

	"gudgeon/api"
	"gudgeon/term"
)

// run is so many of one code point.
func run(c, n int) api.Run { return api.Run{C: c, N: n} }

// zigzag is a text of n runs, of so many code points each.
func zigzag(n, each int) []api.Run {
	l := make([]api.Run, n)
	for i := range l {
		l[i] = run(97+i%3, each)
	}
	return l
}

// some is no more of a name than can be read at a glance.
func some(name string) string { return strconv.Quote(name[:min(len(name), 20)]) }

// digits is a list of numbers as it can be read, no more of it than at a glance.
func digits(l ...int) string {
	var s []string
	for _, n := range l[:min(len(l), 8)] {
		s = append(s, strconv.Itoa(n))
	}
	return strings.Join(s, " ") + " (" + strconv.Itoa(len(l)) + ")"
}

// noNumbers is what is no term's number, where there are so many terms.
func noNumbers(n int) []int {
	return []int{math.MinInt, math.MinInt + 1, -1 << 32, -20000, -2, -1, n, n + 1, n + 2, 1<<32 + n, 1 << 40, math.MaxInt - 1, math.MaxInt}
}

// noSorts is what is no sort.
func noSorts() []int {
	return []int{math.MinInt, math.MinInt + 1, -1 << 32, -3, -2, -1, 0, 4, 5, 100, 256 + 1, 1<<32 + 1, 1<<32 + 2, 1 << 40, math.MaxInt - 1, math.MaxInt}
}

// noOps is what is none of the table's operations.
func noOps() []int {
	return []int{
		math.MinInt, math.MinInt + 1, -1 << 32, -6, -5, -2, -1, 0, api.OpConst, api.OpTrue, api.OpFalse, api.OpNum, api.OpStr,
		api.Ops, api.Ops + 1, api.Ops + 6, 100, 255, 256, 256 + api.OpNot, 1<<32 + api.OpNot, 1 << 40, math.MaxInt - 1, math.MaxInt,
	}
}

// allOps is the table's operations.
func allOps() []int {
	var l []int
	for op := api.OpNot; op < api.Ops; op++ {
		l = append(l, op)
	}
	return l
}

// belowNought is numbers below 0.
func belowNought() []api.Whole {
	var l []api.Whole
	for _, n := range [][]uint32{{1}, {3}, {math.MaxUint32}, {0, 1}, {3, 0, 0}, {0, 0, 7, 0}, slices.Repeat([]uint32{5}, 500)} {
		l = append(l, api.Whole{Neg: true, N: n})
	}
	return l
}

// wrongTexts is texts that may not be.
func wrongTexts() [][]api.Run {
	return [][]api.Run{
		{{}}, {run(97, 0)}, {run(97, -1)}, {run(97, math.MinInt)}, {run(-1, 1)}, {run(196608, 1)}, {run(math.MaxInt, 1)}, {run(math.MinInt, 1)},
		{run(97, 1), run(97, 1)}, {run(97, 1), run(98, 2), run(98, 1)}, {run(97, 1), run(98, 0), run(97, 1)}, {run(97, 3), run(98, 1), run(99, -1)},
		{run(97, 1<<40+1)}, {run(97, 1<<40), run(98, 1)}, {run(97, math.MaxInt)}, {run(97, math.MaxInt), run(98, math.MaxInt), run(99, 3)}, zigzag(65537, 1),
	}
}

// wantAnswer complains if a call answers otherwise.
func wantAnswer(t *testing.T, what string, got int, gotE api.Errno, want int, wantE api.Errno) {
	t.Helper()
	if got != want || gotE != wantE {
		t.Errorf("%s: %d, error %d, not %d, error %d", what, got, gotE, want, wantE)
	}
}

// wantNone complains if there is a term of that number, or anything is told of it.
func wantNone(t *testing.T, b *term.Bank, id int) {
	t.Helper()
	n, is := b.At(id)
	if is || n.Op != 0 || n.Sort != 0 || n.A != nil || n.Name != "" || n.Num.Neg || n.Num.N != nil || n.Str != nil {
		t.Errorf("At %d: %v, %v", id, n, is)
	}
}

// wantLen complains if there are not as many terms.
func wantLen(t *testing.T, b *term.Bank, n int) {
	t.Helper()
	if b.Len() != n {
		t.Errorf("%d terms, not %d", b.Len(), n)
	}
}
