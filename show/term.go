package show

import (
	"gudgeon/api"
	"gudgeon/runs"
	"gudgeon/term"
)

// space is how many atoms and lists there may still be. Terms share their parts, so a few of them may
// stand for more than could ever be made: whether there is room is asked ahead of making anything.
type space struct {
	bank *term.Bank
	left int
}

// fits tells whether there is room for a term, within so many lists, and takes that room.
func (s *space) fits(id, around int) bool {
	n, _ := s.bank.At(id)
	if len(n.A) == 0 {
		return s.take(1) && runs.Len(n.Str) <= api.MaxShown
	}
	// Two are the list itself and its operation.
	if around == api.MaxDepth || !s.take(2) {
		return false
	}
	for _, part := range n.A {
		if !s.fits(part, around+1) {
			return false
		}
	}
	return true
}

// take takes room for so many, and tells whether it was there.
func (s *space) take(n int) bool {
	s.left -= n
	return s.left >= 0
}

// teller tells terms for which there is room. It keeps what those without parts are told by: digits
// may be many, and one number may stand in a term very often.
type teller struct {
	bank  *term.Bank
	atoms map[int]api.Sexp
}

// told is what a term is told by.
func (t *teller) told(id int) api.Sexp {
	if x, known := t.atoms[id]; known {
		return x
	}
	n, _ := t.bank.At(id)
	if len(n.A) == 0 {
		x := leaf(n)
		t.atoms[id] = x
		return x
	}
	var parts []api.Sexp
	for _, part := range n.A {
		parts = append(parts, t.told(part))
	}
	return apply(n.Op, parts...)
}

// leaf is what a term without parts is told by.
func leaf(n api.Node) api.Sexp {
	switch n.Op {
	case api.OpNum:
		return number(n.Num)
	case api.OpStr:
		return literal(n.Str)
	case api.OpConst:
		return symbol(n.Name)
	}
	return truth(n.Op == api.OpTrue)
}
