package eval

import (
	"slices"

	"gudgeon/api"
	"gudgeon/runs"
	"gudgeon/whole"
)

// truth is what an operation of sort Bool makes of its parts.
func truth(op int, a []api.Value) bool {
	switch op {
	case api.OpTrue:
		return true
	case api.OpNot:
		return !a[0].B
	case api.OpAnd:
		return all(a)
	case api.OpOr:
		return slices.ContainsFunc(a, isTrue)
	case api.OpImplies:
		last := len(a) - 1
		return a[last].B || !all(a[:last])
	case api.OpXor:
		return odd(a)
	case api.OpEq:
		return each(a, same)
	case api.OpDistinct:
		return distinct(a)
	case api.OpLe:
		return each(a, ordered(func(cmp int) bool { return cmp <= 0 }))
	case api.OpLt:
		return each(a, ordered(func(cmp int) bool { return cmp < 0 }))
	case api.OpGe:
		return each(a, ordered(func(cmp int) bool { return cmp >= 0 }))
	case api.OpGt:
		return each(a, ordered(func(cmp int) bool { return cmp > 0 }))
	case api.OpPrefix:
		return runs.Prefix(a[0].S, a[1].S)
	case api.OpSuffix:
		return runs.Suffix(a[0].S, a[1].S)
	case api.OpContains:
		return runs.Contains(a[0].S, a[1].S)
	}
	return false
}

// isTrue tells whether a truth is true.
func isTrue(v api.Value) bool { return v.B }

// all tells whether all truths are true.
func all(a []api.Value) bool {
	return !slices.ContainsFunc(a, func(v api.Value) bool { return !v.B })
}

// odd tells whether an odd number of truths is true.
func odd(a []api.Value) bool {
	is := false
	for _, v := range a {
		is = is != v.B
	}
	return is
}

// each tells whether something holds of each part and the one behind it.
func each(a []api.Value, holds func(v, behind api.Value) bool) bool {
	for i := 1; i < len(a); i++ {
		if !holds(a[i-1], a[i]) {
			return false
		}
	}
	return true
}

// ordered makes a function that tells whether two numbers stand to one another as is asked of their whole.Cmp.
func ordered(is func(cmp int) bool) func(v, behind api.Value) bool {
	return func(v, behind api.Value) bool { return is(whole.Cmp(v.I, behind.I)) }
}

// same tells whether two values of one sort are one. Of a number's own form there is one alone, and so of
// a text's: none is gone through twice.
func same(v, other api.Value) bool {
	return v.B == other.B && v.I.Neg == other.I.Neg && slices.Equal(v.I.N, other.I.N) && slices.Equal(v.S, other.S)
}

// distinct tells whether no two values are one.
func distinct(a []api.Value) bool {
	for i, v := range a {
		if slices.ContainsFunc(a[:i], func(ahead api.Value) bool { return same(ahead, v) }) {
			return false
		}
	}
	return true
}

// number is what an operation of sort Int makes of its parts.
func number(n api.Node, a []api.Value) api.Whole {
	switch n.Op {
	case api.OpNum:
		return n.Num
	case api.OpNeg:
		return whole.Neg(a[0].I)
	case api.OpAdd:
		return fromLeft(a, whole.Add)
	case api.OpSub:
		return fromLeft(a, whole.Sub)
	case api.OpMul:
		return fromLeft(a, whole.Mul)
	case api.OpLen:
		return whole.Of(runs.Len(a[0].S))
	case api.OpIndex:
		return whole.Of(runs.Index(a[0].S, a[1].S, place(a[2].I)))
	}
	return api.Whole{}
}

// fromLeft is what is made of the first number and the second one, of that and the third one, and so on.
func fromLeft(a []api.Value, of func(x, y api.Whole) api.Whole) api.Whole {
	n := a[0].I
	for _, v := range a[1:] {
		n = of(n, v.I)
	}
	return n
}

// text is what an operation of sort String makes of its parts.
func text(n api.Node, a []api.Value) ([]api.Run, api.Errno) {
	switch n.Op {
	case api.OpStr:
		return n.Str, api.OK
	case api.OpConcat:
		return concat(a)
	case api.OpAt:
		return runs.At(a[0].S, place(a[1].I)), api.OK
	case api.OpSubstr:
		return runs.Substr(a[0].S, place(a[1].I), length(a[2].I)), api.OK
	case api.OpReplace:
		return runs.Replace(a[0].S, a[1].S, a[2].S)
	}
	return nil, api.OK
}

// concat is texts behind one another, by halves, so that no run is copied anew for each text behind it.
// No half is too long of what is not.
func concat(a []api.Value) ([]api.Run, api.Errno) {
	if len(a) == 1 {
		return a[0].S, api.OK
	}
	half := len(a) / 2
	left, e := concat(a[:half])
	if e != api.OK {
		return nil, e
	}
	right, e := concat(a[half:])
	if e != api.OK {
		return nil, e
	}
	return runs.Concat(left, right)
}

// place is a number as a place of texts; -1, where nothing stands, if it is greater than any int, or less.
func place(n api.Whole) int {
	if i, is := whole.Int(n); is {
		return i
	}
	return -1
}

// length is a number as a length of texts. One that is beyond an int is as good as the greatest length, or
// as what is as much below 0.
func length(n api.Whole) int {
	if i, is := whole.Int(n); is {
		return i
	}
	return whole.Sign(n) * api.MaxString
}
