package build

import (
	"gudgeon/api"
	"gudgeon/term"
)

// mostNested is how many lists may stand in one another. The document promises nothing of more than
// 2^16; but of a list that has itself among its parts there would be no end.
const mostNested = 1 << 18

// maker makes terms. What is begun stands on a stack of its own: functions that call one another may
// be far deeper than Go lets calls be.
type maker struct {
	bank   *term.Bank
	decls  []api.Decl
	places map[string][]int
	made   map[string]int
	scopes []scope
	begun  []frame
}

// frame is s-expressions of which terms are made, in order, and what is done when all are made. Its
// scopes are how many there are around them; depth is in how many lists they stand.
type frame struct {
	parts  []api.Sexp
	ids    []int
	then   func(ids []int) api.Errno
	scopes int
	depth  int
}

// newMaker is a maker of terms in the bank b that has begun nothing.
func newMaker(b *term.Bank, l []api.Decl) *maker {
	return &maker{bank: b, decls: l, places: placesOf(l), made: map[string]int{}}
}

// term is the term of an s-expression behind all declarations, in which some names say terms.
func (m *maker) term(x api.Sexp, terms map[string]int) (int, api.Errno) {
	m.body(x, scope{terms: terms, ahead: len(m.decls)}, nil)
	for len(m.begun[0].ids) == 0 {
		if e := m.step(); e != api.OK {
			return 0, e
		}
	}
	return m.begun[0].ids[0], api.OK
}

// step begins the next part of what was begun last, or, if there is none, ends that.
func (m *maker) step() api.Errno {
	last := m.begun[len(m.begun)-1]
	m.scopes = m.scopes[:last.scopes]
	if n := len(last.ids); n < len(last.parts) {
		return m.part(last.parts[n])
	}
	m.begun = m.begun[:len(m.begun)-1]
	return last.then(last.ids)
}

// part makes the term of an s-expression, or begins what it is made of.
func (m *maker) part(x api.Sexp) api.Errno {
	if x.List {
		return m.list(x.L)
	}
	return m.atom(x.Tok)
}

// nest begins the parts of a list.
func (m *maker) nest(parts []api.Sexp, then func(ids []int) api.Errno) api.Errno {
	depth := m.begun[len(m.begun)-1].depth + 1
	if depth > mostNested {
		return api.ErrLong
	}
	m.begin(frame{parts: parts, then: then, depth: depth})
	return api.OK
}

// body begins what stands in no list, with the only scope that says something there.
func (m *maker) body(x api.Sexp, s scope, then func(ids []int) api.Errno) {
	s.body = true
	m.scopes = append(m.scopes, s)
	m.begin(frame{parts: []api.Sexp{x}, then: then})
}

// begin lays a frame upon those that are begun, within the scopes that there are.
func (m *maker) begin(f frame) {
	f.scopes = len(m.scopes)
	m.begun = append(m.begun, f)
}

// give hands a term to what was begun last, as its next one.
func (m *maker) give(id int, e api.Errno) api.Errno {
	if e == api.OK {
		last := &m.begun[len(m.begun)-1]
		last.ids = append(last.ids, id)
	}
	return e
}

// giveFirst hands on the term of what has one part.
func (m *maker) giveFirst(ids []int) api.Errno { return m.give(ids[0], api.OK) }

// says is what a name says within all scopes that there are.
func (m *maker) says(name string) meaning {
	s := search{name: name, places: m.places}
	fromEnd(m.scopes, s.ends)
	return s.found
}
