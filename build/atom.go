package build

import (
	"gudgeon/api"
	"gudgeon/lit"
	"gudgeon/nat"
)

// atom makes the term of an atom.
func (m *maker) atom(t api.Token) api.Errno {
	switch t.Kind {
	case api.TokNumeral:
		n, e := nat.Parse(t.Text)
		if e != api.OK {
			return api.ErrOp
		}
		return m.give(m.bank.Num(api.Whole{N: n}))
	case api.TokString:
		// Where Runs has an error it tells no runs, and these are the text then.
		s, _ := lit.Runs(lit.Points(t.Text))
		return m.give(m.bank.Str(s))
	case api.TokSymbol:
		return m.name(t.Text)
	}
	return api.ErrOp
}

// name makes the term of a name that stands by itself.
func (m *maker) name(name string) api.Errno {
	if name == "true" || name == "false" {
		return m.give(m.bank.Bool(name == "true"))
	}
	if Reserved(name) {
		return api.ErrOp
	}
	s := m.says(name)
	switch s.kind {
	case nothing:
		return api.ErrName
	case aTerm:
		return m.give(s.at, api.OK)
	}
	if d := m.decls[s.at]; !d.Macro {
		return m.give(m.bank.Const(d.Name, d.Sort))
	}
	return m.call(s.at, nil)
}
