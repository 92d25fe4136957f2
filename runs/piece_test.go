package runs_test

import (
	"math"
	"slices"
	"testing"

	"gudgeon/api"
	"gudgeon/runs"
)

func TestP82Concat(t *testing.T) {
	for _, c := range [][3]string{
		{"", "", ""}, {"a", "", "a"}, {"", "a", "a"}, {"a", "a", "aa"}, {"a", "b", "ab"}, {"ab", "ba", "abba"}, {"aab", "bba", "aabbba"}, {"ab", "ab", "abab"}, {"aaa", "aab", "aaaaab"}, {"baa", "aaa", "baaaaa"},
	} {
		wantConcat(t, text(c[0]), text(c[1]), text(c[2]))
	}
	wantConcat(t, nil, []api.Run{}, nil)
	wantConcat(t, []api.Run{}, nil, nil)
	wantConcat(t, []api.Run{}, text("ab"), text("ab"))
	wantConcat(t, []api.Run{run(0, 1)}, []api.Run{run(0, 2)}, []api.Run{run(0, 3)})
	wantConcat(t, []api.Run{run(196607, 1)}, []api.Run{run(0, 2)}, []api.Run{run(196607, 1), run(0, 2)})
	// Only what meets is put together, and what stands behind it stays.
	wantConcat(t, []api.Run{run(97, 1), run(98, 2)}, []api.Run{run(98, 3), run(97, 4), run(98, 5)}, []api.Run{run(97, 1), run(98, 5), run(97, 4), run(98, 5)})
}

func TestP82ConcatOfMostCodePoints(t *testing.T) {
	a, b := func(n int) []api.Run { return []api.Run{run(97, n)} }, func(n int) []api.Run { return []api.Run{run(98, n)} }
	wantConcat(t, a(most), nil, a(most))
	wantConcat(t, nil, a(most), a(most))
	wantConcat(t, a(most-1), a(1), a(most))
	wantConcat(t, a(1), a(most-1), a(most))
	wantConcat(t, a(most/2), a(most/2), a(most))
	wantConcat(t, a(most-1), b(1), cat(a(most-1), b(1)))
	wantConcat(t, a(5), b(most-5), cat(a(5), b(most-5)))
	wantConcat(t, cat(a(5), b(5)), cat(b(5), a(most-15)), cat(a(5), b(10), a(most-15)))
	for _, n := range []int{1, 2, most / 2, most - 1, most} {
		wantNoConcat(t, a(most), a(n), api.ErrLong)
		wantNoConcat(t, a(most), b(n), api.ErrLong)
		wantNoConcat(t, b(n), a(most), api.ErrLong)
		wantNoConcat(t, a(n), a(most-n+1), api.ErrLong)
		wantNoConcat(t, b(n), a(most-n+1), api.ErrLong)
	}
	wantNoConcat(t, cat(a(1), b(most-1)), b(1), api.ErrLong)
	wantNoConcat(t, zigzag(65536, 1<<24), text("c"), api.ErrLong)
	wantNoConcat(t, zigzag(32768, 1<<24), cat(zigzag(32768, 1<<24)[2:], []api.Run{run(100, 1<<25+1)}), api.ErrLong)
	wantConcat(t, zigzag(32768, 1<<24), cat(zigzag(32768, 1<<24)[2:], []api.Run{run(100, 1<<25)}), cat(zigzag(32768, 1<<24), zigzag(32768, 1<<24)[2:], []api.Run{run(100, 1<<25)}))
}

func TestP82ConcatOfMostRuns(t *testing.T) {
	all := zigzag(65536, 1)
	wantConcat(t, all, nil, all)
	wantConcat(t, nil, all, all)
	for _, n := range []int{1, 2, 3, 30000, 65534, 65535} {
		ahead, behind := all[:n], all[n:]
		wantConcat(t, ahead, behind, all)
		// One more run at the end, at the beginning, and where both meet.
		wantNoConcat(t, ahead, cat(behind, text("b")), api.ErrLong)
		wantNoConcat(t, cat(text("d"), ahead), behind, api.ErrLong)
		wantNoConcat(t, cat(ahead, text("d")), behind, api.ErrLong)
		// Two more runs that have one code point where both meet are one more.
		wantNoConcat(t, cat(ahead, text("d")), cat(text("d"), behind), api.ErrLong)
		// One that is parted there is one again.
		last := all[n-1]
		want := slices.Clone(all)
		want[n-1].N = 3
		wantConcat(t, ahead, cat([]api.Run{run(last.C, 2)}, behind), want)
	}
	wantConcat(t, all, []api.Run{run(97, 4)}, cat(all[:65535], []api.Run{run(97, 5)}))
	wantConcat(t, []api.Run{run(97, 4)}, all, cat([]api.Run{run(97, 5)}, all[1:]))
	wantNoConcat(t, all, text("b"), api.ErrLong)
	wantNoConcat(t, text("b"), all, api.ErrLong)
	wantNoConcat(t, all, text("ab"), api.ErrLong)
	wantNoConcat(t, text("ba"), all, api.ErrLong)
	wantNoConcat(t, all, all, api.ErrLong)
	wantNoConcat(t, all, zigzag(65536, 1<<24), api.ErrLong)
}

func TestP82ConcatOfWrongTexts(t *testing.T) {
	for _, w := range wrongTexts() {
		for _, s := range rightTexts() {
			wantNoConcat(t, w, s, api.ErrArg)
			wantNoConcat(t, s, w, api.ErrArg)
		}
		wantNoConcat(t, w, w, api.ErrArg)
	}
}

func TestP82Substr(t *testing.T) {
	s := text("aaab")
	wantSubstr(t, s, 1, 2, text("aa"))
	wantSubstr(t, s, 0, 4, s)
	wantSubstr(t, s, 2, 2, text("ab"))
	wantSubstr(t, s, 3, 1, text("b"))
	for i, c := range []string{"a", "a", "a", "b"} {
		wantSubstr(t, s, i, 1, text(c))
	}
	// Within a run, to its end, from its beginning, and over several.
	s = []api.Run{run(97, 10), run(98, 10), run(99, 1), run(97, 10)}
	wantSubstr(t, s, 3, 4, []api.Run{run(97, 4)})
	wantSubstr(t, s, 13, 4, []api.Run{run(98, 4)})
	wantSubstr(t, s, 25, 4, []api.Run{run(97, 4)})
	wantSubstr(t, s, 5, 5, []api.Run{run(97, 5)})
	wantSubstr(t, s, 5, 6, []api.Run{run(97, 5), run(98, 1)})
	wantSubstr(t, s, 9, 2, []api.Run{run(97, 1), run(98, 1)})
	wantSubstr(t, s, 10, 10, []api.Run{run(98, 10)})
	wantSubstr(t, s, 10, 11, []api.Run{run(98, 10), run(99, 1)})
	wantSubstr(t, s, 9, 12, []api.Run{run(97, 1), run(98, 10), run(99, 1)})
	wantSubstr(t, s, 20, 1, []api.Run{run(99, 1)})
	wantSubstr(t, s, 19, 3, []api.Run{run(98, 1), run(99, 1), run(97, 1)})
	wantSubstr(t, s, 1, 29, []api.Run{run(97, 9), run(98, 10), run(99, 1), run(97, 9)})
}

func TestP82SubstrAtTheEdges(t *testing.T) {
	below := []int{-1, -2, -31, math.MinInt32, math.MinInt + 1, math.MinInt}
	for _, s := range rightTexts() {
		n := runs.Len(s)
		for _, i := range append(below, n, n+1, n+2, 1<<41, math.MaxInt-1, math.MaxInt) {
			for _, k := range []int{math.MinInt, -1, 0, 1, 2, n, n + 1, math.MaxInt} {
				wantSubstr(t, s, i, k, nil)
			}
		}
		for _, i := range []int{0, 1, n / 2, n - 2, n - 1} {
			if i < 0 || i >= n {
				continue
			}
			for _, k := range append(below, 0) {
				wantSubstr(t, s, i, k, nil)
			}
			rest := runs.Substr(s, i, n-i)
			if got := runs.Len(rest); got != n-i {
				t.Errorf("Substr(%v, %d, %d) is %d long", some(s), i, n-i, got)
			}
			// Beyond the end there is no more, however many are asked.
			for _, k := range []int{n - i, n - i + 1, n - i + 2, n + 1, 1 << 41, math.MaxInt - n, math.MaxInt - 1, math.MaxInt} {
				if got := runs.Substr(s, i, k); !slices.Equal(got, rest) {
					t.Errorf("Substr(%v, %d, %d): %v", some(s), i, k, some(got))
				}
			}
		}
		if n > 0 {
			wantSubstr(t, s, 0, n, s)
			wantSubstr(t, s, 0, math.MaxInt, s)
			wantSubstr(t, s, 0, 1, []api.Run{run(s[0].C, 1)})
			wantSubstr(t, s, n-1, 1, []api.Run{run(s[len(s)-1].C, 1)})
			wantSubstr(t, s, n-1, math.MaxInt, []api.Run{run(s[len(s)-1].C, 1)})
		}
	}
}

func TestP82SubstrOfManyRuns(t *testing.T) {
	s := zigzag(65536, 2)
	wantSubstr(t, s, 1, 131070, cat([]api.Run{run(97, 1)}, s[1:65535], []api.Run{run(97, 1)}))
	wantSubstr(t, s, 2, 131068, s[1:65535])
	wantSubstr(t, s, 131069, 2, []api.Run{run(99, 1), run(97, 1)})
	wantSubstr(t, s, 65536, 1, []api.Run{run(s[32768].C, 1)})
}

func TestP82SubstrOfWrongTexts(t *testing.T) {
	for _, w := range wrongTexts() {
		for _, i := range []int{math.MinInt, -1, 0, 1, 2, most, math.MaxInt} {
			for _, n := range []int{math.MinInt, -1, 0, 1, 2, most, math.MaxInt} {
				wantSubstr(t, w, i, n, nil)
			}
		}
	}
}

func TestP84Replace(t *testing.T) {
	for _, c := range [][4]string{
		{"aaab", "a", "c", "caab"}, {"aaab", "b", "c", "aaac"}, {"aaab", "ab", "c", "aac"}, {"aaab", "aaab", "c", "c"}, {"aaab", "aa", "c", "cab"},
		// Nothing stands first at the beginning.
		{"", "", "", ""}, {"", "", "ab", "ab"}, {"ab", "", "", "ab"}, {"ab", "", "c", "cab"}, {"ab", "", "ca", "caab"}, {"ab", "", "a", "aab"},
		// By nothing, by itself, and what is not there.
		{"aaab", "aab", "", "a"}, {"aaab", "aaab", "", ""}, {"abc", "b", "", "ac"}, {"aaab", "ab", "ab", "aaab"}, {"aaab", "c", "d", "aaab"}, {"aaab", "ba", "", "aaab"}, {"aaab", "aaaa", "d", "aaab"}, {"", "a", "b", ""}, {"a", "aa", "b", "a"},
		// Only the first one is replaced.
		{"abab", "ab", "c", "cab"}, {"abab", "b", "", "aab"}, {"aaaa", "aa", "b", "baa"},
		// What is put in is put together with what stands ahead, behind, or both.
		{"abc", "b", "a", "aac"}, {"abc", "b", "c", "acc"}, {"aba", "b", "a", "aaa"}, {"aba", "b", "", "aa"}, {"aba", "b", "aa", "aaaa"}, {"abca", "bc", "", "aa"}, {"aabaa", "b", "aca", "aaacaaa"}, {"abba", "b", "a", "aaba"}, {"abba", "bb", "", "aa"}, {"cabac", "aba", "c", "ccc"},
	} {
		wantReplace(t, text(c[0]), text(c[1]), text(c[2]), text(c[3]))
	}
	wantReplace(t, []api.Run{}, nil, []api.Run{}, nil)
	wantReplace(t, nil, []api.Run{}, text("a"), text("a"))
}

func TestP84ReplaceOfMostCodePoints(t *testing.T) {
	a, b := func(n int) []api.Run { return []api.Run{run(97, n)} }, func(n int) []api.Run { return []api.Run{run(98, n)} }
	wantReplace(t, a(most), a(1), b(1), cat(b(1), a(most-1)))
	wantReplace(t, a(most), a(most), b(most), b(most))
	wantReplace(t, a(most), a(most), nil, nil)
	wantReplace(t, a(most), a(most-1), b(most-1), cat(b(most-1), a(1)))
	wantReplace(t, a(most), a(1), nil, a(most-1))
	wantReplace(t, a(most), a(most), a(most), a(most))
	wantReplace(t, a(most), nil, nil, a(most))
	wantReplace(t, cat(a(most-1), b(1)), b(1), a(1), a(most))
	wantReplace(t, cat(a(10), b(1), a(most-11)), b(1), a(1), a(most))
	wantReplace(t, cat(a(10), b(1), a(most-11)), b(1), nil, a(most-1))
	wantReplace(t, a(most-5), a(1), b(6), cat(b(6), a(most-6)))
	wantReplace(t, nil, nil, a(most), a(most))
	// What is not there is not put in, however long it is.
	wantReplace(t, a(most), b(1), b(most), a(most))
	wantReplace(t, a(most-1), a(most), b(most), a(most-1))
	wantNoReplace(t, a(most), a(1), b(2), api.ErrLong)
	wantNoReplace(t, a(most), a(1), a(2), api.ErrLong)
	wantNoReplace(t, a(most), nil, a(1), api.ErrLong)
	wantNoReplace(t, a(most), nil, a(most), api.ErrLong)
	wantNoReplace(t, a(most-5), a(1), b(7), api.ErrLong)
	wantNoReplace(t, a(1), nil, b(most), api.ErrLong)
	wantNoReplace(t, cat(a(10), b(1), a(most-11)), b(1), a(2), api.ErrLong)
	wantNoReplace(t, cat(a(10), b(1), a(most-11)), b(1), b(most), api.ErrLong)
	wantNoReplace(t, cat(a(most-10), b(10)), b(10), cat(b(10), a(1)), api.ErrLong)
	wantNoReplace(t, cat(a(most-10), b(10)), b(1), b(most), api.ErrLong)
}

func TestP84ReplaceOfMostRuns(t *testing.T) {
	all := zigzag(65536, 1)
	wantReplace(t, all, text("a"), text("d"), cat(text("d"), all[1:]))
	wantReplace(t, all, text("b"), text("d"), cat(text("a"), text("d"), all[2:]))
	wantReplace(t, all, nil, text("aa"), cat(text("aaa"), all[1:]))
	wantReplace(t, all, text("abc"), text("dab"), cat(text("dab"), all[3:]))
	wantReplace(t, all, text("abc"), nil, all[3:])
	wantReplace(t, all, all, text("d"), text("d"))
	wantReplace(t, text("d"), text("d"), all, all)
	wantReplace(t, all, all[:65535], all[1:65536], cat(all[1:65535], text("aa")))
	wantReplace(t, nil, nil, all, all)
	wantReplace(t, all, text("d"), all, all)
	// Put together with both sides, two runs are fewer.
	wantReplace(t, all, text("b"), text("ac"), cat(text("aacc"), all[3:]))
	wantReplace(t, all, text("b"), text("ad"), cat(text("aad"), all[2:]))
	wantReplace(t, all, text("b"), text("dc"), cat(text("adcc"), all[3:]))
	wantReplace(t, text("ab"), text("b"), all, cat(text("aa"), all[1:]))
	wantReplace(t, text("aba"), text("b"), all, cat(text("aa"), all[1:65535], text("aa")))
	wantNoReplace(t, text("dba"), text("b"), all, api.ErrLong)
	wantNoReplace(t, text("abd"), text("b"), all, api.ErrLong)
	wantNoReplace(t, text("ab"), text("a"), all, api.ErrLong)
	wantNoReplace(t, text("d"), nil, all, api.ErrLong)
	wantNoReplace(t, all, nil, text("d"), api.ErrLong)
	wantNoReplace(t, all, nil, text("da"), api.ErrLong)
	wantNoReplace(t, all, nil, all, api.ErrLong)
	wantNoReplace(t, all, text("a"), all, api.ErrLong)
	for _, u := range []string{"de", "ada", "acac", "dcac", "cdc", "abca", "dbd"} {
		wantNoReplace(t, all, text("b"), text(u), api.ErrLong)
	}
	// Where a run is parted, there is one more.
	s := cat([]api.Run{run(97, 5)}, all[1:])
	wantReplace(t, s, text("ab"), text("d"), cat(text("aaaad"), all[2:]))
	wantReplace(t, s, text("aa"), nil, cat(text("aaa"), all[1:]))
	wantReplace(t, s, text("aa"), text("aa"), s)
	wantReplace(t, s, text("aaaaa"), text("d"), cat(text("d"), all[1:]))
	wantNoReplace(t, s, text("aa"), text("d"), api.ErrLong)
	wantNoReplace(t, s, text("ab"), text("de"), api.ErrLong)
	// At the end.
	s = cat(all[:65535], text("d"))
	wantReplace(t, s, text("d"), text("e"), cat(all[:65535], text("e")))
	wantReplace(t, s, text("d"), text("c"), cat(all[:65534], text("cc")))
	wantReplace(t, s, text("d"), text("ce"), cat(all[:65534], text("cce")))
	wantReplace(t, s, text("d"), nil, all[:65535])
	wantNoReplace(t, s, text("d"), text("ef"), api.ErrLong)
	wantNoReplace(t, s, text("d"), text("cef"), api.ErrLong)
}

func TestP84ReplaceOfWrongTexts(t *testing.T) {
	for _, w := range wrongTexts() {
		for _, s := range rightTexts() {
			wantNoReplace(t, w, s, s, api.ErrArg)
			wantNoReplace(t, s, w, s, api.ErrArg)
			wantNoReplace(t, s, s, w, api.ErrArg)
			// It is told also if what is to be replaced is not there.
			wantNoReplace(t, s, text("xyx"), w, api.ErrArg)
			wantNoReplace(t, nil, s, w, api.ErrArg)
			wantNoReplace(t, w, w, s, api.ErrArg)
			wantNoReplace(t, w, s, w, api.ErrArg)
			wantNoReplace(t, s, w, w, api.ErrArg)
		}
		wantNoReplace(t, w, w, w, api.ErrArg)
	}
}
