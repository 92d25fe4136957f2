package runs_test

import (
	"math"
	"slices"
	"testing"

	"gudgeon/api"
	"gudgeon/runs"
)

func TestP83PrefixAndSuffix(t *testing.T) {
	s := []api.Run{run(97, 3), run(98, 2), run(97, 1), run(99, 4)}
	for _, a := range [][]api.Run{
		nil, {}, s[:1], s[:2], s[:3], s, {run(97, 1)}, {run(97, 2)}, {run(97, 3), run(98, 1)}, {run(97, 3), run(98, 2), run(97, 1), run(99, 3)}, {run(97, 3), run(98, 2), run(97, 1), run(99, 1)},
	} {
		wantPrefix(t, a, s, true)
		wantSuffix(t, turned(a), turned(s), true)
	}
	for _, a := range [][]api.Run{
		// Longer, with a longer last run, with one of another code point.
		{run(97, 4)}, {run(97, most)}, {run(98, 1)}, {run(0, 1)}, {run(97, 3), run(98, 3)}, {run(97, 3), run(99, 1)}, {run(97, 3), run(98, 2), run(97, 1), run(99, 5)}, {run(97, 3), run(98, 2), run(97, 1), run(98, 4)},
		append(slices.Clone(s), run(97, 1)),
		// With another run ahead of the last one, shorter or longer.
		{run(97, 2), run(98, 1)}, {run(97, 4), run(98, 1)}, {run(99, 3), run(98, 1)}, {run(97, 3), run(98, 1), run(97, 1)}, {run(97, 3), run(98, 3), run(97, 1)}, {run(97, 2), run(98, 2), run(97, 1), run(99, 4)}, {run(97, 3), run(98, 2), run(97, 2), run(99, 1)},
		// At the other end.
		{run(99, 4)}, {run(97, 1), run(99, 4)}, s[1:],
	} {
		wantPrefix(t, a, s, false)
		wantSuffix(t, turned(a), turned(s), false)
	}
}

// turned is a text from its end on.
func turned(s []api.Run) []api.Run {
	l := slices.Clone(s)
	slices.Reverse(l)
	return l
}

func TestP83PrefixAndSuffixAreDifferent(t *testing.T) {
	wantPrefix(t, text("ab"), text("abb"), true)
	wantSuffix(t, text("ab"), text("abb"), false)
	wantPrefix(t, text("bb"), text("abb"), false)
	wantSuffix(t, text("bb"), text("abb"), true)
	// Which stands in which.
	wantPrefix(t, text("abb"), text("ab"), false)
	wantSuffix(t, text("abb"), text("bb"), false)
}

func TestP83PrefixAndSuffixOfOneRun(t *testing.T) {
	for _, n := range []int{1, 2, 1000, most - 1, most} {
		s := []api.Run{run(97, n)}
		for _, k := range []int{1, 2, 999, 1000, 1001, most - 1, most} {
			wantPrefix(t, []api.Run{run(97, k)}, s, k <= n)
			wantSuffix(t, []api.Run{run(97, k)}, s, k <= n)
			wantPrefix(t, []api.Run{run(98, k)}, s, false)
			wantSuffix(t, []api.Run{run(98, k)}, s, false)
		}
	}
	for _, a := range [][]api.Run{text("a"), text("ab"), {run(0, 1)}, {run(97, most)}} {
		wantPrefix(t, a, nil, false)
		wantSuffix(t, a, []api.Run{}, false)
		wantPrefix(t, nil, a, true)
		wantSuffix(t, []api.Run{}, a, true)
	}
	wantPrefix(t, nil, []api.Run{}, true)
	wantSuffix(t, []api.Run{}, nil, true)
}

func TestP83IndexOfOneRun(t *testing.T) {
	s := []api.Run{run(97, 10), run(98, 3), run(97, 5), run(99, 1), run(97, 20)}
	a := func(n int) []api.Run { return []api.Run{run(97, n)} }
	for _, c := range []struct{ n, i, want int }{
		{1, 0, 0}, {10, 0, 0}, {10, 1, 19}, {3, 1, 1}, {3, 7, 7}, {3, 8, 13}, {1, 9, 9}, {1, 10, 13}, {2, 9, 13}, {5, 6, 13}, {5, 13, 13}, {5, 14, 19}, {4, 14, 14}, {4, 15, 19}, {6, 5, 19}, {11, 0, 19}, {20, 0, 19}, {20, 19, 19}, {20, 20, -1}, {19, 20, 20}, {19, 21, -1},
		{21, 0, -1}, {1, 38, 38}, {1, 39, -1}, {1, 40, -1}, {2, 38, -1}, {1, 18, 19}, {most, 0, -1},
	} {
		wantIndex(t, s, a(c.n), c.i, c.want)
	}
	wantIndex(t, s, text("bbb"), 0, 10)
	wantIndex(t, s, text("bb"), 11, 11)
	wantIndex(t, s, text("bb"), 12, -1)
	wantIndex(t, s, text("bbbb"), 0, -1)
	wantIndex(t, s, text("c"), 0, 18)
	wantIndex(t, s, text("cc"), 0, -1)
	wantIndex(t, s, text("d"), 0, -1)
}

func TestP83IndexOfTwoRuns(t *testing.T) {
	s := []api.Run{run(97, 3), run(98, 2), run(97, 5), run(98, 1), run(99, 1), run(97, 4), run(98, 9)}
	ab := func(n, k int) []api.Run { return []api.Run{run(97, n), run(98, k)} }
	for _, c := range []struct{ n, k, i, want int }{
		// The first run is shorter, as long as, and longer than that in which it stands.
		{1, 1, 0, 2}, {2, 1, 0, 1}, {3, 1, 0, 0}, {4, 1, 0, 6}, {5, 1, 0, 5}, {6, 1, 0, -1},
		// And so the last one.
		{1, 2, 0, 2}, {1, 3, 0, 15}, {4, 9, 0, 12}, {4, 10, 0, -1}, {5, 2, 0, -1}, {4, 2, 0, 12}, {3, 2, 0, 0}, {3, 2, 1, 13},
		// The first place is not far enough.
		{1, 1, 2, 2}, {1, 1, 3, 9}, {2, 1, 2, 8}, {3, 1, 1, 7}, {3, 1, 8, 13}, {1, 1, 9, 9}, {1, 1, 10, 15}, {1, 1, 15, 15}, {1, 1, 16, -1}, {4, 1, 6, 6}, {4, 1, 7, 12}, {4, 9, 12, 12}, {4, 9, 13, -1}, {1, 1, 25, -1},
	} {
		wantIndex(t, s, ab(c.n, c.k), c.i, c.want)
	}
	wantIndex(t, s, text("bc"), 0, 10)
	wantIndex(t, s, text("bbc"), 0, -1)
	wantIndex(t, s, text("ba"), 0, 4)
	wantIndex(t, s, text("bba"), 0, 3)
	wantIndex(t, s, text("ba"), 5, -1)
	wantIndex(t, s, text("ca"), 0, 11)
	wantIndex(t, s, text("ac"), 0, -1)
	wantIndex(t, s, text("cb"), 0, -1)
	wantIndex(t, text("a"), text("ab"), 0, -1)
	wantIndex(t, text("b"), text("ab"), 0, -1)
	wantIndex(t, nil, text("ab"), 0, -1)
}

func TestP83IndexOfManyRuns(t *testing.T) {
	s := []api.Run{run(97, 5), run(98, 2), run(99, 5), run(97, 5), run(98, 3), run(99, 5), run(97, 2), run(98, 2), run(99, 9), run(97, 1)}
	abc := func(n, k, m int) []api.Run { return []api.Run{run(97, n), run(98, k), run(99, m)} }
	for _, c := range []struct{ n, k, m, i, want int }{
		// The middle one must be just as long.
		{1, 2, 1, 0, 4}, {1, 3, 1, 0, 16}, {1, 1, 1, 0, -1}, {1, 4, 1, 0, -1}, {5, 2, 5, 0, 0}, {5, 3, 5, 0, 12}, {5, 3, 6, 0, -1}, {6, 3, 5, 0, -1},
		{1, 2, 6, 0, 26}, {2, 2, 9, 0, 25}, {2, 2, 10, 0, -1}, {3, 2, 6, 0, -1}, {1, 2, 1, 4, 4}, {1, 2, 1, 5, 26}, {2, 2, 1, 3, 3}, {2, 2, 1, 4, 25}, {5, 2, 1, 1, -1}, {1, 3, 1, 16, 16}, {1, 3, 1, 17, -1}, {1, 2, 9, 26, 26}, {1, 2, 9, 27, -1},
	} {
		wantIndex(t, s, abc(c.n, c.k, c.m), c.i, c.want)
	}
	wantIndex(t, s, s, 0, 0)
	wantIndex(t, s, s, 1, -1)
	wantIndex(t, s, s[1:], 0, 5)
	wantIndex(t, s, s[1:], 5, 5)
	wantIndex(t, s, s[1:], 6, -1)
	wantIndex(t, s, s[:9], 0, 0)
	wantIndex(t, s, s[3:8], 0, 12)
	wantIndex(t, s, append(slices.Clone(s), run(98, 1)), 0, -1)
	wantIndex(t, s, cat([]api.Run{run(98, 1)}, s), 0, -1)
	wantIndex(t, s, text("cccabbbccc"), 0, -1)
	wantIndex(t, s, text("cccaaaaabbbccc"), 0, 9)
	wantIndex(t, s, text("caabbc"), 0, 24)
	wantIndex(t, s, text("caabbca"), 0, -1)
	wantIndex(t, s, text("caabbccccccccca"), 0, 24)
	wantIndex(t, s, text("caabbcccccccccaa"), 0, -1)
}

// What looks like the beginning of t for a long while is given up for what begins within it.
func TestP83IndexOfWhatRepeatsItself(t *testing.T) {
	for _, c := range []struct {
		s, u string
		want int
	}{
		{"abababac", "ababac", 2}, {"ababababc", "ababc", 4}, {"abacabacabad", "abacabad", 4}, {"abcabcabcabd", "abcabd", 6}, {"abcabaabcabcab", "abcabc", 6}, {"aabbaabbaab", "abbaab", 1}, {"aabbaabbaabc", "abbaabc", 5}, {"ababaabbabaababb", "aababb", 10},
		{"abababab", "bababa", 1}, {"abababab", "bababac", -1}, {"ababab", "abababa", -1}, {"cabababd", "ababd", 3}, {"abacababacabac", "abacabac", 6}, {"bbabbabb", "bbabbabb", 0}, {"babbabb", "bbabb", 2}, {"bbababb", "bababb", 1},
	} {
		wantIndex(t, text(c.s), text(c.u), 0, c.want)
	}
}

func TestP83IndexOfManyRunsThatRepeatThemselves(t *testing.T) {
	all := zigzag(65536, 1)
	wantIndex(t, all, all, 0, 0)
	wantIndex(t, all, all[1:], 0, 1)
	wantIndex(t, all, all[30000:], 0, 0)
	wantIndex(t, all, all[30000:], 1, 3)
	wantIndex(t, all, all[:65534], 1, -1)
	wantIndex(t, all, all[:65533], 1, 3)
	wantIndex(t, all, cat(all[:30000], text("d")), 0, -1)
	wantIndex(t, all, cat(text("d"), all[:30000]), 0, -1)
	// Its last run is longer than the others, and stands at the end alone.
	s := cat(all[:65535], text("aa"))
	for n := 2; n < 65536; n = n*3 - 1 {
		wantIndex(t, s, s[65536-n:], 0, 65536-n)
		wantIndex(t, s, s[65536-n:], 65536-n, 65536-n)
		wantIndex(t, s, s[65536-n:], 65536-n+1, -1)
		wantIndex(t, all, s[65536-n:], 0, -1)
	}
	// Its first run is longer than the others, and stands at the beginning alone.
	s = cat(text("aa"), all[1:])
	for n := 2; n < 65536; n = n*3 - 1 {
		wantIndex(t, s, s[:n], 0, 0)
		wantIndex(t, s, s[:n], 1, -1)
		wantIndex(t, all, s[:n], 0, -1)
	}
}

func TestP83IndexOfNothing(t *testing.T) {
	for _, none := range [][]api.Run{nil, {}} {
		for _, s := range [][]api.Run{nil, {}, text("a"), text("aaab"), text("abcabc"), zigzag(300, 3)} {
			n := runs.Len(s)
			for i := range n + 1 {
				wantIndex(t, s, none, i, i)
			}
			wantIndex(t, s, none, n+1, -1)
			wantIndex(t, s, none, n+2, -1)
		}
		s := []api.Run{run(97, most-5), run(98, 5)}
		for _, i := range []int{0, 1, most / 2, most - 6, most - 5, most - 4, most - 1, most} {
			wantIndex(t, s, none, i, i)
		}
		wantIndex(t, s, none, most+1, -1)
	}
}

// Nothing stands, nor anything else, at a place that there is not.
func TestP83IndexFromWrongPlaces(t *testing.T) {
	for _, s := range rightTexts() {
		n := runs.Len(s)
		for _, i := range []int{-1, -2, -n, -n - 1, math.MinInt32, math.MinInt + 1, math.MinInt, n + 1, n + 2, 1 << 41, math.MaxInt - 1, math.MaxInt} {
			if i == 0 {
				continue
			}
			wantIndex(t, s, nil, i, -1)
			wantIndex(t, s, s, i, -1)
			wantIndex(t, s, text("a"), i, -1)
			wantIndex(t, s, text("ab"), i, -1)
		}
		wantIndex(t, s, s, 0, 0)
		wantIndex(t, s, nil, n, n)
		wantIndex(t, s, text("a"), n, -1)
	}
}

func TestP83WrongTexts(t *testing.T) {
	for _, w := range wrongTexts() {
		for _, s := range append(rightTexts(), w) {
			wantPrefix(t, w, s, false)
			wantPrefix(t, s, w, false)
			wantSuffix(t, w, s, false)
			wantSuffix(t, s, w, false)
			for _, i := range []int{math.MinInt, -1, 0, 1, 2, most, math.MaxInt} {
				wantIndex(t, w, s, i, -1)
				wantIndex(t, s, w, i, -1)
			}
		}
	}
}
