package sexp

import "gudgeon/api"

// atom is the s-expression of a token.
func atom(t api.Token) api.Sexp { return api.Sexp{Tok: t, At: t.At} }

// list is the list of l, which begins with its bracket and ends with the one that closes it.
func list(l []api.Token) api.Sexp {
	has, all := counts(l)
	room := make([]api.Sexp, all)
	var open []api.Sexp
	for i, t := range l {
		switch t.Kind {
		case api.TokOpen:
			// Its room ends where the next one's begins, so that nobody who adds to
			// one list writes into another one.
			n := has[i]
			open = append(open, api.Sexp{List: true, At: t.At, L: room[0:0:n]})
			room = room[n:]
		case api.TokClose:
			top := len(open) - 1
			done := open[top]
			if top == 0 {
				return done
			}
			open = open[:top]
			add(open, done)
		default:
			add(open, atom(t))
		}
	}
	return api.Sexp{}
}

// add lays x behind what the list has that was opened last.
func add(open []api.Sexp, x api.Sexp) {
	last := &open[len(open)-1]
	last.L = append(last.L, x)
}

// counts is how much each list of l has, by the place of its bracket, and how much all of them have.
func counts(l []api.Token) (has []int, all int) {
	has = make([]int, len(l))
	var open []int
	for i, t := range l {
		top := len(open) - 1
		if t.Kind == api.TokClose {
			open = open[:top]
			continue
		}
		if top >= 0 {
			has[open[top]]++
			all++
		}
		if t.Kind == api.TokOpen {
			open = append(open, i)
		}
	}
	return has, all
}
