package build

import (
	"slices"
	"strconv"

	"gudgeon/api"
)

// list begins what a list is made of.
func (m *maker) list(l []api.Sexp) api.Errno {
	if len(l) == 0 {
		return api.ErrArg
	}
	name, is := nameOf(l[0])
	if !is {
		return api.ErrOp
	}
	parts := l[1:]
	if name == let {
		return m.let(parts)
	}
	if op := operation(name, len(parts)); op != 0 {
		return m.nest(parts, func(ids []int) api.Errno { return m.give(m.bank.App(op, ids)) })
	}
	if Reserved(name) {
		return api.ErrOp
	}
	s := m.says(name)
	if s.kind != declared || !m.decls[s.at].Macro {
		return api.ErrName
	}
	return m.nest(parts, func(ids []int) api.Errno { return m.call(s.at, ids) })
}

// let begins what names are to say, and behind these the term in which they say it.
func (m *maker) let(parts []api.Sexp) api.Errno {
	names, terms, e := bindings(parts)
	if e != api.OK {
		return e
	}
	return m.nest(terms, func(ids []int) api.Errno {
		m.scopes = append(m.scopes, scope{terms: bound(names, ids)})
		return m.nest(parts[1:], m.giveFirst)
	})
}

// bindings is the names that a let binds, and what they are to say.
func bindings(parts []api.Sexp) ([]string, []api.Sexp, api.Errno) {
	if len(parts) != 2 || !parts[0].List {
		return nil, nil, api.ErrArg
	}
	var names []string
	var terms []api.Sexp
	for _, x := range parts[0].L {
		if !x.List || len(x.L) != 2 {
			return nil, nil, api.ErrArg
		}
		name, is := nameOf(x.L[0])
		if !is {
			return nil, nil, api.ErrArg
		}
		names, terms = append(names, name), append(terms, x.L[1])
	}
	if slices.ContainsFunc(names, Reserved) {
		return nil, nil, api.ErrOp
	}
	if twice(names) {
		return nil, nil, api.ErrThere
	}
	return names, terms, api.OK
}

// call makes the term of a function and its parts, or begins its body.
func (m *maker) call(at int, ids []int) api.Errno {
	d := m.decls[at]
	if len(ids) != len(d.Params) {
		return api.ErrArg
	}
	key := spell(at, ids)
	if id, is := m.made[key]; is {
		return m.give(id, api.OK)
	}
	for i, p := range d.Params {
		if sortOf(m.bank, ids[i]) != p.Sort {
			return api.ErrSort
		}
	}
	m.body(d.Body, scope{terms: bound(paramNames(d.Params), ids), ahead: at}, func(body []int) api.Errno {
		m.made[key] = body[0]
		return m.give(body[0], api.OK)
	})
	return api.OK
}

// spell is a function and its parts as one key, other than that of any others.
func spell(at int, ids []int) string {
	key := strconv.AppendInt(nil, int64(at), 10)
	for _, id := range ids {
		key = strconv.AppendInt(append(key, ' '), int64(id), 10)
	}
	return string(key)
}
