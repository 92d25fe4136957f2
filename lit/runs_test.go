package lit_test

import (
	"math"
	"slices"
	"testing"

	"gudgeon/api"
	"gudgeon/lit"
)

// run is so many of one code point.
func run(c, n int) api.Run { return api.Run{C: c, N: n} }

// wantRuns complains if Runs answers otherwise.
func wantRuns(t *testing.T, l []int, want ...api.Run) {
	t.Helper()
	if got, e := lit.Runs(l); e != api.OK || !slices.Equal(got, want) {
		t.Errorf("Runs(%v): the %d %v, error %d, not the %d %v", first(l), len(got), first(got), e, len(want), first(want))
	}
}

// wantNoRuns complains if Runs answers anything but the error.
func wantNoRuns(t *testing.T, e api.Errno, l ...int) {
	t.Helper()
	if got, gotE := lit.Runs(l); gotE != e || len(got) != 0 {
		t.Errorf("Runs(%v): %v, error %d, not %d", first(l), first(got), gotE, e)
	}
}

// wantList complains if List answers otherwise, also if less or more than that many are allowed.
func wantList(t *testing.T, s []api.Run, want ...int) {
	t.Helper()
	n := len(want)
	for _, most := range []int{n, n + 1, n + 1000, math.MaxInt32, 1 << 40, math.MaxInt - 1, math.MaxInt} {
		if got, e := lit.List(s, most); e != api.OK || !slices.Equal(got, want) {
			t.Errorf("List(%v, %d): the %d %v, error %d, not the %d %v", first(s), most, len(got), first(got), e, n, first(want))
		}
	}
	for _, most := range []int{n - 1, n - 2, 0, -1, -7, math.MinInt32, math.MinInt + 1, math.MinInt} {
		if most < n {
			wantNoList(t, api.ErrLong, most, s...)
		}
	}
}

// wantNoList complains if List answers anything but the error.
func wantNoList(t *testing.T, e api.Errno, most int, s ...api.Run) {
	t.Helper()
	if got, gotE := lit.List(s, most); gotE != e || len(got) != 0 {
		t.Errorf("List(%v, %d): %v, error %d, not %d", first(s), most, first(got), gotE, e)
	}
}

func TestP73Runs(t *testing.T) {
	wantRuns(t, nil)
	wantRuns(t, []int{})
	wantRuns(t, []int{97}, run(97, 1))
	wantRuns(t, bytesOf("aaab"), run('a', 3), run('b', 1))
	wantRuns(t, bytesOf("abbb"), run('a', 1), run('b', 3))
	wantRuns(t, bytesOf("abab"), run('a', 1), run('b', 1), run('a', 1), run('b', 1))
	wantRuns(t, bytesOf("aabbaa"), run('a', 2), run('b', 2), run('a', 2))
	wantRuns(t, bytesOf("abc"), run('a', 1), run('b', 1), run('c', 1))
	wantRuns(t, slices.Repeat([]int{0}, 1000000), run(0, 1000000))
}

// Every code point may stand in a text, nought first of all.
func TestP73RunsOfEdges(t *testing.T) {
	for _, c := range []int{0, 1, 31, 32, 91, 92, 93, 126, 127, 128, 255, 0xd800, 65535, 65536, 196606, 196607} {
		wantRuns(t, []int{c}, run(c, 1))
		wantRuns(t, []int{c, c}, run(c, 2))
		wantRuns(t, []int{2, c, c, 3}, run(2, 1), run(c, 2), run(3, 1))
		wantRuns(t, []int{c, 2, c}, run(c, 1), run(2, 1), run(c, 1))
	}
	wantRuns(t, []int{0, 0, 1, 0}, run(0, 2), run(1, 1), run(0, 1))
}

func TestP73RunsOfNoCodePoints(t *testing.T) {
	for _, c := range noPoints {
		wantNoRuns(t, api.ErrArg, c)
		wantNoRuns(t, api.ErrArg, c, c)
		wantNoRuns(t, api.ErrArg, c, 97)
		wantNoRuns(t, api.ErrArg, 97, c)
		wantNoRuns(t, api.ErrArg, 97, 97, c, c, 97)
		wantNoRuns(t, api.ErrArg, append(slices.Repeat([]int{97}, 100000), c)...)
	}
}

// zigzag is n code points, of which none is the one ahead.
func zigzag(n int) []int {
	l := make([]int, n)
	for i := range l {
		l[i] = 97 + i%3
	}
	return l
}

func TestP73MostRuns(t *testing.T) {
	var want []api.Run
	for _, c := range zigzag(65536) {
		want = append(want, run(c, 1))
	}
	wantRuns(t, zigzag(65535), want[:65535]...)
	wantRuns(t, zigzag(65536), want...)
	wantNoRuns(t, api.ErrLong, zigzag(65537)...)
	wantNoRuns(t, api.ErrLong, zigzag(65538)...)
	wantNoRuns(t, api.ErrLong, zigzag(200000)...)
	// As many code points as one likes are that many runs.
	for _, i := range []int{0, 30000, 65535} {
		l := slices.Insert(zigzag(65536), i, slices.Repeat([]int{97 + i%3}, 1000)...)
		more := slices.Clone(want)
		more[i].N = 1001
		wantRuns(t, l, more...)
	}
	wantNoRuns(t, api.ErrLong, slices.Concat(slices.Repeat([]int{1}, 1000), zigzag(65536))...)
	wantNoRuns(t, api.ErrLong, slices.Concat(zigzag(65536), slices.Repeat([]int{1}, 1000))...)
}

// A number that is no code point is told ahead of too many runs, wherever it stands.
func TestP73NoCodePointAmongTooManyRuns(t *testing.T) {
	for _, c := range noPoints {
		for _, n := range []int{65535, 65536, 65537, 80000} {
			for _, i := range []int{0, 1, 30000, 65534, n - 1, n} {
				wantNoRuns(t, api.ErrArg, slices.Insert(zigzag(n), i, c)...)
			}
		}
	}
}

func TestP73List(t *testing.T) {
	wantList(t, nil)
	wantList(t, []api.Run{})
	wantList(t, []api.Run{run(97, 1)}, 97)
	wantList(t, []api.Run{run('a', 3), run('b', 1)}, 'a', 'a', 'a', 'b')
	wantList(t, []api.Run{run('a', 1), run('b', 1), run('a', 1)}, 'a', 'b', 'a')
	wantList(t, []api.Run{run(0, 2), run(196607, 2), run(92, 1)}, 0, 0, 196607, 196607, 92)
	wantList(t, []api.Run{run(5, 100000)}, slices.Repeat([]int{5}, 100000)...)
	for _, c := range []int{0, 1, 31, 32, 91, 92, 93, 126, 127, 65535, 65536, 196606, 196607} {
		wantList(t, []api.Run{run(c, 1)}, c)
		wantList(t, []api.Run{run(c, 2), run(3, 1)}, c, c, 3)
	}
}

// List asks for no text in its own form.
func TestP73ListOfOtherForms(t *testing.T) {
	wantList(t, []api.Run{run('a', 1), run('a', 2)}, 'a', 'a', 'a')
	wantList(t, []api.Run{run('b', 1), run('a', 1), run('a', 1), run('b', 1)}, 'b', 'a', 'a', 'b')
	wantList(t, slices.Repeat([]api.Run{run('a', 1)}, 70000), slices.Repeat([]int{'a'}, 70000)...)
	var many []api.Run
	for _, c := range zigzag(70000) {
		many = append(many, run(c, 1))
	}
	wantList(t, many, zigzag(70000)...)
}

func TestP73ListOfWrongRuns(t *testing.T) {
	mosts := []int{math.MinInt, -1, 0, 1, 2, 3, 4, 1000, math.MaxInt}
	var wrong []api.Run
	for _, c := range noPoints {
		wrong = append(wrong, run(c, 1), run(c, 0), run(c, -1), run(c, math.MaxInt))
	}
	for _, n := range []int{0, -1, -2, -97, math.MinInt32, math.MinInt + 1, math.MinInt} {
		wrong = append(wrong, run(97, n), run(0, n), run(196607, n))
	}
	for _, most := range mosts {
		for _, r := range append(wrong, api.Run{}) {
			wantNoList(t, api.ErrArg, most, r)
			wantNoList(t, api.ErrArg, most, r, r)
			wantNoList(t, api.ErrArg, most, run(97, 2), r)
			wantNoList(t, api.ErrArg, most, r, run(97, 2))
			wantNoList(t, api.ErrArg, most, run(97, 1), r, run(98, 1))
			// What is wrong is told ahead of too many, also behind them.
			wantNoList(t, api.ErrArg, most, run(97, 1<<40), r)
			wantNoList(t, api.ErrArg, most, run(97, math.MaxInt), run(98, math.MaxInt), r)
			wantNoList(t, api.ErrArg, most, append(slices.Repeat([]api.Run{run(97, 1), run(98, 1)}, 40000), r)...)
		}
	}
}

func TestP73ListOfTooMany(t *testing.T) {
	for _, n := range []int{2, 3, 1000, 1 << 32, 1<<40 - 1, 1 << 40, 1<<40 + 1, 1 << 62, math.MaxInt - 1, math.MaxInt} {
		for _, most := range []int{math.MinInt, -1, 0, 1} {
			wantNoList(t, api.ErrLong, most, run(97, n))
			wantNoList(t, api.ErrLong, most, run(97, 1), run(98, n))
			wantNoList(t, api.ErrLong, most, run(97, n), run(98, 1))
		}
		wantNoList(t, api.ErrLong, n-1, run(97, n))
		wantNoList(t, api.ErrLong, n, run(97, n), run(98, 1))
		wantNoList(t, api.ErrLong, n, run(97, 1), run(98, n))
		wantNoList(t, api.ErrLong, n, run(97, n), run(98, n))
	}
}

// A sum that no int holds is above every most, though it may wrap round to a small one.
func TestP73ListOfSumsBeyondInt(t *testing.T) {
	for _, most := range []int{math.MinInt, -2, -1, 0, 1, 2, 1000, 1 << 40, math.MaxInt - 1, math.MaxInt} {
		wantNoList(t, api.ErrLong, most, run(97, math.MaxInt), run(98, 1))
		wantNoList(t, api.ErrLong, most, run(97, 1), run(98, math.MaxInt))
		wantNoList(t, api.ErrLong, most, run(97, math.MaxInt), run(98, math.MaxInt))
		wantNoList(t, api.ErrLong, most, run(97, math.MaxInt), run(97, math.MaxInt), run(97, 2))
		wantNoList(t, api.ErrLong, most, run(97, math.MaxInt), run(97, math.MaxInt), run(97, 3))
		wantNoList(t, api.ErrLong, most, run(97, 1<<62), run(98, 1<<62))
		wantNoList(t, api.ErrLong, most, run(97, 1<<62), run(98, 1<<62), run(97, 1<<62), run(98, 1<<62))
		wantNoList(t, api.ErrLong, most, run(97, 1<<62), run(98, 1<<62), run(97, 1<<62), run(98, 1<<62), run(99, 1))
	}
}

// No more than memory holds is ever listed: nothing panics.
func TestP1ListOfMoreThanMemoryHolds(t *testing.T) {
	for _, n := range []int{1 << 31, 1 << 40, 1 << 48, 1 << 62, math.MaxInt} {
		wantNoList(t, api.ErrLong, n, run(97, n))
		wantNoList(t, api.ErrLong, math.MaxInt, run(97, n))
		wantNoList(t, api.ErrLong, math.MaxInt, run(98, 1), run(97, n-1))
	}
}

// wantListed complains if what is put into runs isn't listed the same, or its text isn't in its own form.
func wantListed(t *testing.T, l []int) {
	t.Helper()
	s, e := lit.Runs(l)
	if e != api.OK {
		t.Errorf("Runs(%v): error %d", first(l), e)
		return
	}
	for i, r := range s {
		if r.N < 1 || i > 0 && r.C == s[i-1].C {
			t.Errorf("Runs(%v): not in its own form at %d: %v", first(l), i, r)
		}
	}
	wantList(t, s, l...)
}

func TestP74WhatIsPutIntoRunsIsListed(t *testing.T) {
	wantListed(t, nil)
	wantListed(t, []int{})
	wantListed(t, zigzag(65536))
	wantListed(t, slices.Repeat([]int{196607}, 100000))
	for n := range 10 {
		many := 1
		for range n {
			many *= 3
		}
		for k := range many {
			l := make([]int, n)
			for i := range l {
				l[i] = []int{0, 97, 196607}[k%3]
				k /= 3
			}
			wantListed(t, l)
		}
	}
}
