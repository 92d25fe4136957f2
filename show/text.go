package show

import (
	"math/bits"
	"strconv"

	"gudgeon/api"
	"gudgeon/runs"
)

// text is what a text that may be is told by.
func text(s []api.Run) (api.Sexp, api.Errno) {
	all := pieces(s)
	if len(all) > api.MaxArgs {
		return api.Sexp{}, api.ErrLong
	}
	if len(all) == 1 {
		return piece(all[0]), api.OK
	}
	var parts []api.Sexp
	// Two are the list itself and its operation.
	total := 2
	for _, p := range all {
		x := piece(p)
		total += size(x)
		if total > api.MaxSize {
			return api.Sexp{}, api.ErrLong
		}
		parts = append(parts, x)
	}
	return apply(api.OpConcat, parts...), api.OK
}

// pieces is a text, cut so that no piece of several runs is too long for a literal; there is at least one.
func pieces(s []api.Run) [][]api.Run {
	var all [][]api.Run
	from, n := 0, 0
	for i, r := range s {
		if i > from && n+r.N > api.MaxShown {
			all = append(all, s[from:i])
			from, n = i, 0
		}
		n += r.N
	}
	return append(all, s[from:])
}

// piece is what a piece of a text is told by.
func piece(s []api.Run) api.Sexp {
	if runs.Len(s) > api.MaxShown {
		return long(s[0])
	}
	return literal(s)
}

// long is what a run is told by that is too long for a literal: names are bound to 1, 2, 4 .. of its
// code point, as long as there are so many, and some of these together are the run.
func long(r api.Run) api.Sexp {
	around := func(x api.Sexp) api.Sexp { return x }
	for k := range bits.Len(uint(r.N)) {
		outer := around
		around = func(x api.Sexp) api.Sexp { return outer(let(k, r.C, x)) }
	}
	return around(sum(r.N))
}

// let is the term x, in which the k-th name says 2^k of the code point c.
func let(k, c int, x api.Sexp) api.Sexp {
	bound := literal([]api.Run{{C: c, N: 1}})
	if k > 0 {
		bound = apply(api.OpConcat, name(k-1), name(k-1))
	}
	return list(symbol("let"), list(list(name(k), bound)), x)
}

// sum is n code points, by the names of those powers of 2 that n is made of.
func sum(n int) api.Sexp {
	var parts []api.Sexp
	for k := bits.Len(uint(n)) - 1; k >= 0; k-- {
		if n>>k&1 == 1 {
			parts = append(parts, name(k))
		}
	}
	if len(parts) == 1 {
		return parts[0]
	}
	return apply(api.OpConcat, parts...)
}

// name is the one that is bound to 2^k code points.
func name(k int) api.Sexp { return symbol("d" + strconv.Itoa(k)) }

// size is how many atoms and lists there are in an s-expression.
func size(x api.Sexp) int {
	n := 1
	for _, y := range x.L {
		n += size(y)
	}
	return n
}
