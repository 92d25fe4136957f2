package runs_test

import (
	"math/rand"
	"slices"
	"testing"
	"time"

	"gudgeon/api"
	"gudgeon/runs"
)

// anyText is some text of no more than so many runs, of which many are short and some are very long.
func anyText(r *rand.Rand, pieces int) []api.Run {
	var l []api.Run
	signs := 1 + r.Intn(4)
	for range r.Intn(pieces + 1) {
		c := 97 + r.Intn(signs)
		if len(l) > 0 && l[len(l)-1].C == c {
			continue
		}
		n := []int{1, 1, 2, 3, 1 + r.Intn(5), 1 << 20, 1<<30 + r.Intn(3), 1 + r.Intn(1<<33)}[r.Intn(8)]
		l = append(l, run(c, n))
	}
	return l
}

// anyPiece is some text that stands in s, or nearly so.
func anyPiece(r *rand.Rand, s []api.Run) []api.Run {
	n := runs.Len(s)
	i := anyPlace(r, s)
	l := runs.Substr(s, i, anyPlace(r, s)-i)
	if n > 0 && len(l) > 0 && r.Intn(3) == 0 {
		l[r.Intn(len(l))].N += 1 + r.Intn(2)
	}
	return l
}

// anyPlace is some place of s, mostly near one at which a run begins.
func anyPlace(r *rand.Rand, s []api.Run) int {
	at := 0
	for _, q := range s[:r.Intn(len(s)+1)] {
		at += q.N
	}
	return max(0, min(runs.Len(s), at+r.Intn(7)-3))
}

// wantJoined complains if what stands behind one another isn't s.
func wantJoined(t *testing.T, s []api.Run, parts ...[]api.Run) {
	t.Helper()
	var l []api.Run
	for _, p := range parts {
		var e api.Errno
		if l, e = runs.Concat(l, p); e != api.OK {
			t.Errorf("Concat(%v, %v): error %d", some(l), some(p), e)
		}
		if !runs.May(l) || !runs.May(p) {
			t.Errorf("%v or its piece %v is in no own form", some(l), some(p))
		}
	}
	if !slices.Equal(l, s) {
		t.Errorf("%v behind one another: %v, not %v", parts, some(l), some(s))
	}
}

// wantParted complains if s isn't its beginning and the rest.
func wantParted(t *testing.T, s []api.Run, i int) {
	t.Helper()
	n := runs.Len(s)
	begin, rest := runs.Substr(s, 0, i), runs.Substr(s, i, n-i)
	wantJoined(t, s, begin, rest)
	wantPrefix(t, begin, s, true)
	wantSuffix(t, rest, s, true)
	if runs.Len(begin) != i || runs.Len(rest) != n-i {
		t.Errorf("%v, parted at %d: %v and %v", some(s), i, some(begin), some(rest))
	}
	if i < n {
		wantJoined(t, s, begin, runs.At(s, i), runs.Substr(s, i+1, n))
	}
}

func TestP85ATextIsItsBeginningAndTheRest(t *testing.T) {
	r := rand.New(rand.NewSource(86))
	for range 5000 {
		s := anyText(r, 12)
		at := 0
		for _, q := range s {
			for _, i := range []int{at, at + 1, at + q.N/2, at + q.N - 1, at + q.N} {
				wantParted(t, s, i)
			}
			at += q.N
		}
		wantParted(t, s, anyPlace(r, s))
	}
	for _, s := range rightTexts() {
		n := runs.Len(s)
		for _, i := range []int{0, n / 3, n / 2, n} {
			wantParted(t, s, i)
		}
	}
}

// wantFirst complains if u doesn't stand where Index says, or stands ahead of that, from i on.
func wantFirst(t *testing.T, s, u []api.Run, i int) {
	t.Helper()
	n, k := runs.Len(s), runs.Len(u)
	at := runs.Index(s, u, i)
	rest := runs.Substr(s, i, n)
	if at < 0 {
		if runs.Contains(rest, u) || i == 0 && runs.Contains(s, u) {
			t.Errorf("Index(%v, %v, %d): -1", some(s), some(u), i)
		}
		return
	}
	if at < i || !runs.Same(runs.Substr(s, at, k), u) {
		t.Errorf("Index(%v, %v, %d): %d, where it does not stand", some(s), some(u), i, at)
	}
	if k > 0 {
		// All that is ahead, up to the last code point but one of where it stands.
		wantIndex(t, runs.Substr(s, i, at-i+k-1), u, 0, -1)
	}
	wantIndex(t, rest, u, 0, at-i)
	wantIndex(t, s, u, at, at)
}

// wantReplaced complains if Replace isn't what stands ahead, what is put in, and what stands behind.
func wantReplaced(t *testing.T, s, u, v []api.Run) {
	t.Helper()
	got, e := runs.Replace(s, u, v)
	if e != api.OK {
		t.Errorf("Replace(%v, %v, %v): error %d", some(s), some(u), some(v), e)
		return
	}
	at := runs.Index(s, u, 0)
	if at < 0 {
		wantText(t, "Replace of what is not there", got, s)
		return
	}
	wantJoined(t, got, runs.Substr(s, 0, at), v, runs.Substr(s, at+runs.Len(u), runs.Len(s)))
	// Put back at its place, it is s again.
	wantJoined(t, s, runs.Substr(got, 0, at), u, runs.Substr(got, at+runs.Len(v), runs.Len(got)))
}

func TestP85WhereItStandsFirst(t *testing.T) {
	r := rand.New(rand.NewSource(87))
	for range 20000 {
		s, v := anyText(r, 12), anyText(r, 3)
		for _, u := range [][]api.Run{anyPiece(r, s), anyText(r, 3)} {
			wantFirst(t, s, u, 0)
			wantFirst(t, s, u, anyPlace(r, s))
			wantReplaced(t, s, u, v)
			begin := runs.Same(runs.Substr(s, 0, runs.Len(u)), u)
			wantPrefix(t, u, s, begin)
			k, n := runs.Len(u), runs.Len(s)
			end := k == 0 || k <= n && runs.Same(runs.Substr(s, n-k, k), u)
			wantSuffix(t, u, s, end)
			if runs.Contains(s, u) != (runs.Index(s, u, 0) >= 0) {
				t.Errorf("Contains(%v, %v)", some(s), some(u))
			}
		}
	}
}

// soon complains if something lasts far longer than its runs tell.
func soon(t *testing.T, f func()) {
	t.Helper()
	done := make(chan int)
	go func() {
		defer close(done)
		f()
	}()
	select {
	case <-done:
	case <-time.After(time.Minute):
		t.Fatal("it lasts as long as its runs are")
	}
}

func TestP85NoTimeIsToldByLength(t *testing.T) {
	a, b := func(n int) []api.Run { return []api.Run{run(97, n)} }, func(n int) []api.Run { return []api.Run{run(98, n)} }
	const half = most / 2
	soon(t, func() {
		for range 1000 {
			s := cat(a(half-7), b(half), a(7))
			wantMay(t, s, most)
			wantSubstr(t, s, 3, most-6, cat(a(half-10), b(half), a(4)))
			wantSubstr(t, s, most-8, 2, cat(b(1), a(1)))
			wantPrefix(t, cat(a(half-7), b(half-1)), s, true)
			wantPrefix(t, cat(a(half-8), b(half-1)), s, false)
			wantSuffix(t, cat(b(half-1), a(7)), s, true)
			wantSuffix(t, cat(b(half), a(8)), s, false)
			wantIndex(t, s, b(half), 0, half-7)
			wantIndex(t, s, b(half), half-6, -1)
			wantIndex(t, s, b(half+1), 0, -1)
			wantIndex(t, s, a(7), half-14, half-14)
			wantIndex(t, s, a(7), half-13, most-7)
			wantIndex(t, s, cat(a(half/3), b(half/3)), 5, half-7-half/3)
			wantIndex(t, s, cat(b(half/3), a(7)), 5, most-7-half/3)
			wantIndex(t, s, cat(a(1), b(half), a(6)), 5, half-8)
			wantIndex(t, s, cat(a(1), b(half-1), a(6)), 5, -1)
			wantReplace(t, s, b(half), a(half), a(most))
			wantReplace(t, s, b(half), nil, a(half))
			wantReplace(t, s, cat(a(1), b(half), a(1)), b(1), cat(a(half-8), b(1), a(6)))
			wantConcat(t, a(half-7), cat(b(half), a(7)), s)
		}
	})
}
