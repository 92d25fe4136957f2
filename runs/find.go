package runs

import (
	"slices"

	"gudgeon/api"
)

// Prefix tells whether both texts may be, and s begins with a.
func Prefix(a, s []api.Run) bool {
	if !May(a) || !May(s) || len(a) > len(s) {
		return false
	}
	last := len(a) - 1
	return last < 0 || slices.Equal(a[:last], s[:last]) && within(a[last], s[last])
}

// Suffix tells whether both texts may be, and s ends with a.
func Suffix(a, s []api.Run) bool {
	if !May(a) || !May(s) || len(a) > len(s) {
		return false
	}
	end := s[len(s)-len(a):]
	return len(a) == 0 || within(a[0], end[0]) && slices.Equal(a[1:], end[1:])
}

// within tells whether a run r, which a text begins or ends with, may stand in the run that.
func within(r, that api.Run) bool { return r.C == that.C && r.N <= that.N }

// Index is the first place from i on at which t stands in s; -1, if there is none.
func Index(s, t []api.Run, i int) int {
	if !May(s) || !May(t) || i < 0 {
		return -1
	}
	all := length(s)
	if i > all {
		return -1
	}
	at := first(piece(s, i, all), t)
	if at < 0 {
		return -1
	}
	return i + at
}

// Contains tells whether both texts may be, and t stands in s.
func Contains(s, t []api.Run) bool { return Index(s, t, 0) >= 0 }

// first is the first place at which t stands in s, both of which may be; -1, if there is none.
func first(s, t []api.Run) int {
	switch len(t) {
	case 0:
		return 0
	case 1:
		for at, r := range placed(s) {
			if within(t[0], r) {
				return at
			}
		}
		return -1
	}
	return firstOfMany(s, t)
}

// firstOfMany is first of a t of two runs or more: its first run ends where one of s ends, its
// last one begins where one begins, and those between are just as long as those of s.
func firstOfMany(s, t []api.Run) int {
	head, mid, tail := t[0], t[1:len(t)-1], t[len(t)-1]
	back := falls(mid)
	known := 0
	// i is how many runs lie ahead of r; the last known ones of these are the first ones of mid.
	i := 0
	for at, r := range placed(s) {
		if known == len(mid) && i > known && within(head, s[i-known-1]) && within(tail, r) {
			return at - length(mid) - head.N
		}
		known = step(mid, back, known, r)
		i++
	}
	return -1
}

// falls is, for each beginning of l but nothing, by its number of runs less 1, how many runs the
// longest shorter beginning of l has with which it ends. By it, no run of a long text is looked
// at anew for each place at which l might stand.
func falls(l []api.Run) []int {
	back := make([]int, len(l))
	for i := 1; i < len(l); i++ {
		back[i] = step(l, back, back[i-1], l[i])
	}
	return back
}

// step is how many of the first runs of l are the last ones ahead of some place, when known ones
// were so far, and r comes behind them.
func step(l []api.Run, back []int, known int, r api.Run) int {
	for known > 0 && (known == len(l) || l[known] != r) {
		known = back[known-1]
	}
	if known < len(l) && l[known] == r {
		return known + 1
	}
	return known
}
