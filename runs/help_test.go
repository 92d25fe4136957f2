package runs_test

import (
	"math"
	"slices"
	"strings"
	"testing"

	"gudgeon/api"
	"gudgeon/runs"
)

// most is how many code points a text has at most.
const most = 1 << 40

// run is so many of one code point.
func run(c, n int) api.Run { return api.Run{C: c, N: n} }

// text is the text of a string's bytes.
func text(s string) []api.Run {
	var l []api.Run
	for i := range len(s) {
		if i == 0 || s[i] != s[i-1] {
			l = append(l, run(int(s[i]), 0))
		}
		l[len(l)-1].N++
	}
	return l
}

// spelt is the string of a short text, which may also be in another form than its own.
func spelt(l []api.Run) string {
	var b strings.Builder
	for _, r := range l {
		b.WriteString(strings.Repeat(string([]byte{byte(r.C)}), r.N))
	}
	return b.String()
}

// zigzag is a text of n runs, of so many code points each: a, b, c, a, b ..
func zigzag(n, each int) []api.Run {
	l := make([]api.Run, n)
	for i := range l {
		l[i] = run(97+i%3, each)
	}
	return l
}

// some is no more of a text than can be read at a glance.
func some(l []api.Run) []api.Run { return l[:min(len(l), 8)] }

// cat is texts behind one another, as they stand.
func cat(l ...[]api.Run) []api.Run { return slices.Concat(l...) }

// wrongTexts is texts that may not be.
func wrongTexts() [][]api.Run {
	a, b, c, d := run(97, 1), run(98, 1), run(99, 1), run(100, 1)
	l := [][]api.Run{
		// The code point of the one ahead.
		{a, a}, {a, a, b}, {b, a, a, b}, {b, a, a}, {a, a, a}, {b, c, b, b}, {run(0, 1), run(0, 1)}, {run(196607, 1), run(196607, 2)}, {run(97, 2), run(97, 3)},
		// Beyond 2^40 together.
		{run(97, most+1)}, {run(97, most), b}, {a, run(98, most)}, {run(97, most/2), run(98, most/2), a}, {run(97, most), run(98, most)},
		{a, run(98, most-2), a, b}, {run(97, 1<<62)},
		// Beyond any int, and wrapped round to what might be.
		{run(97, math.MaxInt), b}, {a, run(98, math.MaxInt)}, {run(97, math.MaxInt), run(98, math.MaxInt)},
		{run(97, math.MaxInt), run(98, math.MaxInt), run(97, 2)}, {run(97, math.MaxInt), run(98, math.MaxInt), run(99, 5)},
		{run(97, 1<<62), run(98, 1<<62), run(99, 1<<62), run(100, 1<<62)}, {run(97, 1<<62), run(98, 1<<62), run(99, 1<<62), run(100, 1<<62), a},
		{run(97, 5), run(98, math.MaxInt), run(97, math.MinInt)}, {run(97, 5), run(98, 3), run(97, -3)},
		{{}}, {{}, a}, {a, {}},
		zigzag(65537, 1), zigzag(65538, 1), zigzag(100000, 3), append(zigzag(65536, 1), run(97, 1), run(97, 1)),
		slices.Repeat([]api.Run{a}, 65536), cat(zigzag(65535, 1), []api.Run{c}), cat([]api.Run{a}, zigzag(65535, 1)),
	}
	for _, n := range []int{0, -1, -2, -97, math.MinInt32, math.MinInt + 1, math.MinInt, most + 1, math.MaxInt - 1, math.MaxInt} {
		r := run(100, n)
		l = append(l, []api.Run{r}, []api.Run{r, a}, []api.Run{a, r, b}, []api.Run{a, b, r}, []api.Run{a, r, a}, []api.Run{r, r})
	}
	for _, c := range []int{-1, -2, -97, math.MinInt32, math.MinInt, math.MinInt + 97, 196608, 196609, 0x10ffff, math.MaxInt32, 1<<32 + 97, math.MaxInt} {
		r := run(c, 1)
		l = append(l, []api.Run{r}, []api.Run{r, d}, []api.Run{d, r, b}, []api.Run{d, b, r}, []api.Run{run(c, 0)}, []api.Run{run(c, most)})
	}
	return l
}

// rightTexts is texts that may be.
func rightTexts() [][]api.Run {
	return [][]api.Run{
		nil, {}, text("a"), text("aa"), text("ab"), text("aaab"), text("abab"), text("d"), {run(0, 1)}, {run(196607, 3), run(0, 2)},
		{run(97, most)}, {run(97, most-1), run(98, 1)}, {run(97, most/2), run(98, most/2)}, zigzag(65536, 1), zigzag(65536, 1<<24),
	}
}

// wantText complains if what was answered isn't the text.
func wantText(t *testing.T, what string, got, want []api.Run) {
	t.Helper()
	if !slices.Equal(got, want) {
		t.Errorf("%s: the %d %v, not the %d %v", what, len(got), some(got), len(want), some(want))
	}
}

// wantConcat complains if Concat answers otherwise.
func wantConcat(t *testing.T, a, b, want []api.Run) {
	t.Helper()
	got, e := runs.Concat(a, b)
	if e != api.OK || !slices.Equal(got, want) {
		t.Errorf("Concat(%v, %v): the %d %v, error %d, not the %d %v", some(a), some(b), len(got), some(got), e, len(want), some(want))
	}
}

// wantNoConcat complains if Concat answers anything but the error.
func wantNoConcat(t *testing.T, a, b []api.Run, e api.Errno) {
	t.Helper()
	if got, gotE := runs.Concat(a, b); gotE != e || len(got) != 0 {
		t.Errorf("Concat(%v, %v): the %d %v, error %d, not %d", some(a), some(b), len(got), some(got), gotE, e)
	}
}

// wantSubstr complains if Substr, or At where one code point is asked, answers otherwise.
func wantSubstr(t *testing.T, s []api.Run, i, n int, want []api.Run) {
	t.Helper()
	if got := runs.Substr(s, i, n); !slices.Equal(got, want) {
		t.Errorf("Substr(%v, %d, %d): the %d %v, not the %d %v", some(s), i, n, len(got), some(got), len(want), some(want))
	}
	if n != 1 {
		return
	}
	if got := runs.At(s, i); !slices.Equal(got, want) {
		t.Errorf("At(%v, %d): %v, not %v", some(s), i, some(got), some(want))
	}
}

// wantPrefix complains if Prefix answers otherwise.
func wantPrefix(t *testing.T, a, s []api.Run, want bool) {
	t.Helper()
	if got := runs.Prefix(a, s); got != want {
		t.Errorf("Prefix(%v, %v): %v", some(a), some(s), got)
	}
}

// wantSuffix complains if Suffix answers otherwise.
func wantSuffix(t *testing.T, a, s []api.Run, want bool) {
	t.Helper()
	if got := runs.Suffix(a, s); got != want {
		t.Errorf("Suffix(%v, %v): %v", some(a), some(s), got)
	}
}

// wantIndex complains if Index, or Contains where all of s is gone through, answers otherwise.
func wantIndex(t *testing.T, s, u []api.Run, i, want int) {
	t.Helper()
	if got := runs.Index(s, u, i); got != want {
		t.Errorf("Index(%v, %v, %d): %d, not %d", some(s), some(u), i, got, want)
	}
	if i != 0 {
		return
	}
	if got := runs.Contains(s, u); got != (want >= 0) {
		t.Errorf("Contains(%v, %v): %v", some(s), some(u), got)
	}
}

// wantReplace complains if Replace answers otherwise.
func wantReplace(t *testing.T, s, u, v, want []api.Run) {
	t.Helper()
	got, e := runs.Replace(s, u, v)
	if e != api.OK || !slices.Equal(got, want) {
		t.Errorf("Replace(%v, %v, %v): the %d %v, error %d, not the %d %v", some(s), some(u), some(v), len(got), some(got), e, len(want), some(want))
	}
}

// wantNoReplace complains if Replace answers anything but the error.
func wantNoReplace(t *testing.T, s, u, v []api.Run, e api.Errno) {
	t.Helper()
	if got, gotE := runs.Replace(s, u, v); gotE != e || len(got) != 0 {
		t.Errorf("Replace(%v, %v, %v): the %d %v, error %d, not %d", some(s), some(u), some(v), len(got), some(got), gotE, e)
	}
}
