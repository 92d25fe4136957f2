package eval

import (
	"math"
	"slices"

	"gudgeon/api"
	"gudgeon/runs"
	"gudgeon/term"
	"gudgeon/whole"
)

// asked is for how long a term is to be known that the caller has asked for.
const asked = math.MaxInt

// work is terms that are to be told. A term's parts have lesser numbers than it, so all are told by
// rising numbers, each once, and none calls itself for its parts, however deep they are.
type work struct {
	bank  *term.Bank
	given map[constant]api.Value
	// until is, by its number, up to which term each is needed; 0, if it is not.
	until []int
	known []api.Value
}

// constant is what a constant is found by.
type constant struct {
	name string
	sort int
}

// newWork is work that nobody has begun.
func newWork(b *term.Bank, l []api.Bind) *work { return &work{bank: b, given: givenBy(l)} }

// givenBy is what each constant is to be: the first one that may be is what counts.
func givenBy(l []api.Bind) map[constant]api.Value {
	given := map[constant]api.Value{}
	for _, x := range l {
		c := constant{x.Name, x.V.Sort}
		if _, is := given[c]; !is && mayBe(x.V) {
			given[c] = x.V
		}
	}
	return given
}

// mayBe tells whether a value is one that a constant may have.
func mayBe(v api.Value) bool { return v.Sort != api.SortStr || runs.May(v.S) }

// tell makes known what these terms are, which are there.
func (w *work) tell(ids []int) api.Errno {
	if len(ids) == 0 {
		return api.OK
	}
	w.need(ids)
	w.known = make([]api.Value, len(w.until))
	for id, until := range w.until {
		if until == 0 {
			continue
		}
		n, _ := w.bank.At(id)
		v, e := w.term(n)
		if e != api.OK {
			return e
		}
		w.known[id] = v
		w.forget(n.A, id)
	}
	return api.OK
}

// need marks these terms and all that they are made of.
func (w *work) need(ids []int) {
	w.until = make([]int, slices.Max(ids)+1)
	for _, id := range ids {
		w.until[id] = asked
	}
	for id := len(w.until) - 1; id >= 0; id-- {
		if w.until[id] == 0 {
			continue
		}
		n, _ := w.bank.At(id)
		for _, part := range n.A {
			// What was marked ahead is needed by a greater one.
			if w.until[part] == 0 {
				w.until[part] = id
			}
		}
	}
}

// forget lets go of those parts of the term id that nothing behind it needs: texts may be large.
func (w *work) forget(parts []int, id int) {
	for _, part := range parts {
		if w.until[part] == id {
			w.known[part] = api.Value{}
		}
	}
}

// term is what a term is whose parts are known.
func (w *work) term(n api.Node) (api.Value, api.Errno) {
	var parts []api.Value
	for _, id := range n.A {
		parts = append(parts, w.known[id])
	}
	switch n.Op {
	case api.OpConst:
		return w.constant(n.Name, n.Sort), api.OK
	case api.OpIte:
		if parts[0].B {
			return parts[1], api.OK
		}
		return parts[2], api.OK
	}
	v := Zero(n.Sort)
	e := api.OK
	switch n.Sort {
	case api.SortBool:
		v.B = truth(n.Op, parts)
	case api.SortInt:
		v.I = number(n, parts)
	case api.SortStr:
		v.S, e = text(n, parts)
	}
	return v, e
}

// constant is what the assignment says of a constant, without anything that its sort has not.
func (w *work) constant(name string, sort int) api.Value {
	v, zero := w.given[constant{name, sort}], Zero(sort)
	switch sort {
	case api.SortBool:
		zero.B = v.B
	case api.SortInt:
		zero.I = whole.Norm(v.I)
	case api.SortStr:
		zero.S = slices.Clone(v.S)
	}
	return zero
}
