package runs_test

import (
	"math/rand"
	"slices"
	"strings"
	"testing"

	"gudgeon/api"
	"gudgeon/runs"
)

// words is all strings of no more than n of these signs.
func words(signs string, n int) []string {
	l := []string{""}
	last := l
	for range n {
		var next []string
		for _, s := range last {
			for i := range len(signs) {
				next = append(next, s+signs[i:i+1])
			}
		}
		l = append(l, next...)
		last = next
	}
	return l
}

// index is where u stands first from i on, told anew, of strings.
func index(s, u string, i int) int {
	if i < 0 || i > len(s) {
		return -1
	}
	at := strings.Index(s[i:], u)
	if at < 0 {
		return -1
	}
	return i + at
}

// substr is n bytes of s from i on, told anew.
func substr(s string, i, n int) string {
	if i < 0 || i >= len(s) || n < 1 {
		return ""
	}
	return s[i:min(len(s), i+n)]
}

// wantOne complains if what is asked of one text is answered otherwise than of its string.
func wantOne(t *testing.T, s string) {
	t.Helper()
	l := text(s)
	wantMay(t, l, len(s))
	for i := -1; i < len(s)+2; i++ {
		for n := -1; n < len(s)+2; n++ {
			wantSubstr(t, l, i, n, text(substr(s, i, n)))
		}
	}
}

// wantTwo complains if what is asked of two texts is answered otherwise than of their strings.
func wantTwo(t *testing.T, s, u string) {
	t.Helper()
	l, m := text(s), text(u)
	wantConcat(t, l, m, text(s+u))
	wantPrefix(t, m, l, strings.HasPrefix(s, u))
	wantSuffix(t, m, l, strings.HasSuffix(s, u))
	if runs.Same(l, m) != (s == u) {
		t.Errorf("Same(%v, %v): %v", l, m, s != u)
	}
	for i := -1; i < len(s)+2; i++ {
		wantIndex(t, l, m, i, index(s, u, i))
	}
}

// wantThree complains if Replace answers otherwise than of strings.
func wantThree(t *testing.T, s, u, v string) {
	t.Helper()
	wantReplace(t, text(s), text(u), text(v), text(strings.Replace(s, u, v, 1)))
}

func TestP82AllShortTexts(t *testing.T) {
	for _, s := range words("ab", 8) {
		wantOne(t, s)
	}
	for _, s := range words("abc", 5) {
		wantOne(t, s)
	}
}

func TestP81P82P83AllShortTexts(t *testing.T) {
	for _, s := range words("ab", 8) {
		for _, u := range words("ab", 6) {
			wantTwo(t, s, u)
		}
	}
	for _, s := range words("abc", 5) {
		for _, u := range words("abc", 4) {
			wantTwo(t, s, u)
		}
	}
}

func TestP84AllShortTexts(t *testing.T) {
	for _, s := range words("ab", 6) {
		for _, u := range words("ab", 4) {
			for _, v := range words("ab", 3) {
				wantThree(t, s, u, v)
			}
		}
	}
	for _, s := range words("abc", 4) {
		for _, u := range words("abc", 2) {
			for _, v := range words("abc", 2) {
				wantThree(t, s, u, v)
			}
		}
	}
}

// anyWord is some string of a few signs, of which much stands several times.
func anyWord(r *rand.Rand, pieces int) string {
	signs := "abcd"[:1+r.Intn(4)]
	var b strings.Builder
	for range r.Intn(pieces + 1) {
		i := r.Intn(len(signs))
		b.WriteString(strings.Repeat(signs[i:i+1], 1+r.Intn(4)))
	}
	return b.String()
}

func TestP81P82P83P84AnyTexts(t *testing.T) {
	r := rand.New(rand.NewSource(83))
	for range 1000 {
		s, u, v := anyWord(r, 20), anyWord(r, 5), anyWord(r, 5)
		// A piece of it stands in it, with something else behind it maybe not.
		p := substr(s, r.Intn(len(s)+1), r.Intn(12))
		wantOne(t, s)
		for _, u := range []string{u, p, p + u, u + p} {
			wantTwo(t, s, u)
			wantThree(t, s, u, v)
		}
	}
}

// stretched is a text, each of whose runs is so many times as long.
func stretched(s []api.Run, by int) []api.Run {
	l := slices.Clone(s)
	for i := range l {
		l[i].N *= by
	}
	return l
}

// All lengths and places told so many times as great, the answers are so, too.
func TestP82P83P84StretchedTexts(t *testing.T) {
	r := rand.New(rand.NewSource(85))
	for range 3000 {
		s, u, v := anyWord(r, 10), anyWord(r, 3), anyWord(r, 3)
		p := substr(s, r.Intn(len(s)+1), r.Intn(12))
		by := []int{2, 3, 1000003, 1 << 31, 1 << 32, most / 100}[r.Intn(6)]
		l, w := stretched(text(s), by), stretched(text(v), by)
		for _, u := range []string{u, p, p + u} {
			m := stretched(text(u), by)
			wantConcat(t, l, m, stretched(text(s+u), by))
			wantPrefix(t, m, l, strings.HasPrefix(s, u))
			wantSuffix(t, m, l, strings.HasSuffix(s, u))
			wantReplace(t, l, m, w, stretched(text(strings.Replace(s, u, v, 1)), by))
			for i := range len(s) + 1 {
				at := index(s, u, i)
				if at >= 0 {
					at *= by
				}
				wantIndex(t, l, m, i*by, at)
				wantSubstr(t, l, i*by, len(u)*by, stretched(text(substr(s, i, len(u))), by))
			}
		}
	}
}
