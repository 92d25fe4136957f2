package runs

import (
	"slices"

	"gudgeon/api"
)

// Concat is a, and b behind it.
func Concat(a, b []api.Run) ([]api.Run, api.Errno) {
	if !May(a) || !May(b) {
		return nil, api.ErrArg
	}
	return join(a, b)
}

// join is Concat of texts that may be.
func join(a, b []api.Run) ([]api.Run, api.Errno) {
	if length(a)+length(b) > api.MaxString {
		return nil, api.ErrLong
	}
	l := slices.Concat(a, b)
	if n := len(a); n > 0 && n < len(l) && l[n-1].C == l[n].C {
		l[n-1].N += l[n].N
		l = slices.Delete(l, n, n+1)
	}
	if len(l) > api.MaxRuns {
		return nil, api.ErrLong
	}
	return l, api.OK
}

// Substr is n code points of s from the place i on, or as many as there are.
func Substr(s []api.Run, i, n int) []api.Run {
	all := Len(s)
	if i < 0 || i >= all || n < 1 {
		return nil
	}
	return piece(s, i, i+min(n, all-i))
}

// At is the code point of s at the place i.
func At(s []api.Run, i int) []api.Run { return Substr(s, i, 1) }

// piece is what stands in s from one place on to ahead of another one.
func piece(s []api.Run, from, to int) []api.Run {
	var l []api.Run
	for at, r := range placed(s) {
		if at >= to {
			break
		}
		begin, end := max(at, from), min(at+r.N, to)
		if begin < end {
			l = append(l, api.Run{C: r.C, N: end - begin})
		}
	}
	return l
}

// Replace is s with u in the place of t where that stands first; s, if it stands nowhere.
func Replace(s, t, u []api.Run) ([]api.Run, api.Errno) {
	if !May(s) || !May(t) || !May(u) {
		return nil, api.ErrArg
	}
	at := first(s, t)
	if at < 0 {
		return slices.Clone(s), api.OK
	}
	// What is too long already gets no shorter by what comes behind it.
	l, e := join(piece(s, 0, at), u)
	if e != api.OK {
		return nil, e
	}
	return join(l, piece(s, at+length(t), length(s)))
}
