package lit

import (
	"math"
	"slices"

	"gudgeon/api"
)

// mostListed is how many code points List answers at most, whatever it is allowed:
// the document promises nothing of longer answers, and memory may not hold them.
const mostListed = math.MaxInt32

// Runs is code points as a text, in its own form.
func Runs(l []int) ([]api.Run, api.Errno) {
	// All are looked at ahead, as a wrong one is told ahead of too many runs.
	if slices.ContainsFunc(l, func(c int) bool { return !point(c) }) {
		return nil, api.ErrArg
	}
	var s []api.Run
	for i, c := range l {
		if i > 0 && c == l[i-1] {
			s[len(s)-1].N++
			continue
		}
		if len(s) == api.MaxRuns {
			return nil, api.ErrLong
		}
		s = append(s, api.Run{C: c, N: 1})
	}
	return s, api.OK
}

// List is the code points of a text, one by one, if these are no more than most.
func List(s []api.Run, most int) ([]int, api.Errno) {
	if slices.ContainsFunc(s, func(r api.Run) bool { return !point(r.C) || r.N < 1 }) {
		return nil, api.ErrArg
	}
	n, fits := total(s, min(most, mostListed))
	if !fits {
		return nil, api.ErrLong
	}
	l := make([]int, 0, n)
	for _, r := range s {
		for range r.N {
			l = append(l, r.C)
		}
	}
	return l, api.OK
}

// total is how many code points runs have, and whether these are no more than most.
func total(s []api.Run, most int) (int, bool) {
	if most < 0 {
		return 0, false
	}
	n := 0
	for _, r := range s {
		// The sum itself might leave what an int can hold.
		if r.N > most-n {
			return 0, false
		}
		n += r.N
	}
	return n, true
}
