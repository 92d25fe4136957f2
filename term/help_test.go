package term_test

import (
	"slices"
	"strings"
	"testing"

	"gudgeon/api"
	"gudgeon/term"
)

// rule is what the chapter's table says of an operation, told anew: B, I and S are sorts, a star is
// any one, but the same wherever it stands; a plus stands behind what comes twice or more.
type rule struct {
	op    int
	parts string
	own   byte
}

// rules is the chapter's table.
func rules() []rule {
	return []rule{
		{api.OpNot, "B", 'B'}, {api.OpAnd, "B+", 'B'}, {api.OpOr, "B+", 'B'}, {api.OpImplies, "B+", 'B'}, {api.OpXor, "B+", 'B'},
		{api.OpEq, "*+", 'B'}, {api.OpDistinct, "*+", 'B'}, {api.OpIte, "B**", '*'},
		{api.OpNeg, "I", 'I'}, {api.OpAdd, "I+", 'I'}, {api.OpSub, "I+", 'I'}, {api.OpMul, "I+", 'I'},
		{api.OpLe, "I+", 'B'}, {api.OpLt, "I+", 'B'}, {api.OpGe, "I+", 'B'}, {api.OpGt, "I+", 'B'},
		{api.OpConcat, "S+", 'S'}, {api.OpLen, "S", 'I'}, {api.OpAt, "SI", 'S'}, {api.OpSubstr, "SII", 'S'},
		{api.OpPrefix, "SS", 'B'}, {api.OpSuffix, "SS", 'B'}, {api.OpContains, "SS", 'B'}, {api.OpIndex, "SSI", 'I'}, {api.OpReplace, "SSS", 'S'},
	}
}

// ruleOf is the rule of an operation, and whether there is one.
func ruleOf(op int) (rule, bool) {
	for _, r := range rules() {
		if r.op == op {
			return r, true
		}
	}
	return rule{}, false
}

// sorts is the letter of each sort.
func sorts() map[int]byte {
	return map[int]byte{api.SortBool: 'B', api.SortInt: 'I', api.SortStr: 'S'}
}

// sortOf is the sort of a letter.
func sortOf(letter byte) int {
	for sort, c := range sorts() {
		if c == letter {
			return sort
		}
	}
	return 0
}

// model is a bank told anew: a list, all of which is looked at for each term.
type model struct{ terms []api.Node }

// add is the number of a term that may be, or ErrLong.
func (m *model) add(n api.Node) (int, api.Errno) {
	for id, x := range m.terms {
		if one(x, n) {
			return id, api.OK
		}
	}
	if len(m.terms) == 20000 {
		return 0, api.ErrLong
	}
	m.terms = append(m.terms, n)
	return len(m.terms) - 1, api.OK
}

// letters is the sorts of parts, and whether each of them is a term's number.
func (m *model) letters(a []int) (string, bool) {
	var s strings.Builder
	for _, id := range a {
		if id < 0 || id >= len(m.terms) {
			return "", false
		}
		s.WriteByte(sorts()[m.terms[id].Sort])
	}
	return s.String(), true
}

// app is what App is to answer.
func (m *model) app(op int, a []int) (int, api.Errno) {
	r, is := ruleOf(op)
	if !is {
		return 0, api.ErrOp
	}
	s, are := m.letters(a)
	if !r.mayHave(len(a)) || len(a) > 200 || !are {
		return 0, api.ErrArg
	}
	for _, star := range []string{"B", "I", "S"} {
		if s != strings.ReplaceAll(r.spread(len(a)), "*", star) {
			continue
		}
		if op == api.OpMul && m.unlikeNumbers(a) > 1 {
			return 0, api.ErrOp
		}
		own := r.own
		if own == '*' {
			own = star[0]
		}
		return m.add(api.Node{Op: op, Sort: sortOf(own), A: slices.Clone(a)})
	}
	return 0, api.ErrSort
}

// mayHave tells whether an operation asks for so many parts.
func (r rule) mayHave(n int) bool {
	if strings.HasSuffix(r.parts, "+") {
		return n >= 2
	}
	return n == len(r.parts)
}

// spread is the letters of n parts.
func (r rule) spread(n int) string {
	if letter, more := strings.CutSuffix(r.parts, "+"); more {
		return strings.Repeat(letter, n)
	}
	return r.parts
}

// unlikeNumbers is how many parts are neither an OpNum nor an OpNeg of an OpNum.
func (m *model) unlikeNumbers(a []int) int {
	n := 0
	for _, id := range a {
		x := m.terms[id]
		if x.Op != api.OpNum && (x.Op != api.OpNeg || m.terms[x.A[0]].Op != api.OpNum) {
			n++
		}
	}
	return n
}

// one tells whether two terms are one, noughts behind limbs passed over.
func one(x, y api.Node) bool {
	return x.Op == y.Op && x.Sort == y.Sort && x.Name == y.Name && slices.Equal(x.A, y.A) &&
		slices.Equal(limbs(x.Num.N), limbs(y.Num.N)) && x.Num.Neg == y.Num.Neg && slices.Equal(x.Str, y.Str)
}

// limbs is a number's limbs up to the highest one.
func limbs(n []uint32) []uint32 {
	for len(n) > 0 && n[len(n)-1] == 0 {
		n = n[:len(n)-1]
	}
	return n
}

// banks is a bank, and the model that it is held against.
type banks struct {
	t *testing.T
	b *term.Bank
	m model
}

// newBanks is a bank without terms, and its model.
func newBanks(t *testing.T) *banks { return &banks{t: t, b: &term.Bank{}} }

// want complains if an answer, how many terms there are, or what is told of that term isn't as the model has it.
func (x *banks) want(what string, got int, gotE api.Errno, want int, wantE api.Errno) int {
	x.t.Helper()
	if got != want || gotE != wantE {
		x.t.Errorf("%s: %d, error %d, not %d, error %d", what, got, gotE, want, wantE)
	}
	if x.b.Len() != len(x.m.terms) {
		x.t.Fatalf("%s: %d terms, not %d", what, x.b.Len(), len(x.m.terms))
	}
	if wantE == api.OK {
		x.wantAt(what, want)
	}
	return want
}

// wantAt complains if At tells of a term otherwise than the model.
func (x *banks) wantAt(what string, id int) {
	x.t.Helper()
	n, is := x.b.At(id)
	if !is || !plain(n) || !one(n, x.m.terms[id]) {
		x.t.Errorf("%s: the term %d is %v, not %v", what, id, n, x.m.terms[id])
	}
}

// plain tells whether a term's number is in its own form.
func plain(n api.Node) bool { return !n.Num.Neg && len(limbs(n.Num.N)) == len(n.Num.N) }

// wantAll complains if At tells of any term otherwise than the model, or of one that isn't there.
func (x *banks) wantAll() {
	x.t.Helper()
	for id := range x.m.terms {
		x.wantAt("in the end", id)
	}
	for _, id := range noNumbers(x.b.Len()) {
		wantNone(x.t, x.b, id)
	}
}

// constant asks both for a constant.
func (x *banks) constant(name string, sort int) int {
	x.t.Helper()
	id, e := x.b.Const(name, sort)
	if sorts()[sort] == 0 || len(name) > 16384 {
		return x.want("Const "+some(name), id, e, 0, api.ErrArg)
	}
	want, wantE := x.m.add(api.Node{Op: api.OpConst, Sort: sort, Name: name})
	return x.want("Const "+some(name), id, e, want, wantE)
}

// truth asks both for a truth.
func (x *banks) truth(v bool) int {
	x.t.Helper()
	id, e := x.b.Bool(v)
	op := api.OpFalse
	if v {
		op = api.OpTrue
	}
	want, wantE := x.m.add(api.Node{Op: op, Sort: api.SortBool})
	return x.want("Bool", id, e, want, wantE)
}

// number asks both for a number that may be.
func (x *banks) number(n ...uint32) int {
	x.t.Helper()
	id, e := x.b.Num(api.Whole{N: n})
	want, wantE := x.m.add(api.Node{Op: api.OpNum, Sort: api.SortInt, Num: api.Whole{N: slices.Clone(n)}})
	return x.want("Num", id, e, want, wantE)
}

// text asks both for a text that may be.
func (x *banks) text(s ...api.Run) int {
	x.t.Helper()
	id, e := x.b.Str(s)
	want, wantE := x.m.add(api.Node{Op: api.OpStr, Sort: api.SortStr, Str: slices.Clone(s)})
	return x.want("Str", id, e, want, wantE)
}

// app asks both for an operation's term, and answers its number, 0 if there is none, and the error.
func (x *banks) app(op int, a ...int) (int, api.Errno) {
	x.t.Helper()
	id, e := x.b.App(op, a)
	want, wantE := x.m.app(op, a)
	x.want("App "+digits(op)+" of "+digits(a...), id, e, want, wantE)
	return want, wantE
}

// wantApp complains if App answers other than a term.
func (x *banks) wantApp(op int, a ...int) int {
	x.t.Helper()
	return x.wantError(api.OK, op, a...)
}

// wantError complains if App answers another error.
func (x *banks) wantError(want api.Errno, op int, a ...int) int {
	x.t.Helper()
	id, e := x.app(op, a...)
	if e != want {
		x.t.Errorf("App %d of %s: error %d, not %d", op, digits(a...), e, want)
	}
	return id
}
