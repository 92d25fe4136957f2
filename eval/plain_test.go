package eval_test

import (
	"math/big"
	"math/rand"
	"slices"
	"strconv"
	"strings"
	"testing"

	"gudgeon/api"
	"gudgeon/term"
	"gudgeon/whole"
)

// plain is a value told anew: a number of math/big, and a text code point by code point.
type plain struct {
	sort int
	b    bool
	n    *big.Int
	s    []rune
}

// one tells whether two values of one sort are one.
func (v plain) one(w plain) bool {
	return v.b == w.b && (v.n == nil || v.n.Cmp(w.n) == 0) && string(v.s) == string(w.s)
}

// value is the same as a value of eval's.
func (v plain) value() api.Value {
	switch v.sort {
	case api.SortBool:
		return truthOf(v.b)
	case api.SortInt:
		return numberOf(v.n.String())
	}
	var s []api.Run
	for _, c := range v.s {
		if len(s) == 0 || s[len(s)-1].C != int(c) {
			s = append(s, run(int(c), 0))
		}
		s[len(s)-1].N++
	}
	return textOf(s)
}

// teller tells terms anew: each calls itself for its parts.
type teller struct {
	b *term.Bank
	l []bind
}

func (e teller) tell(id int) plain {
	n, _ := e.b.At(id)
	var a []plain
	for _, part := range n.A {
		a = append(a, e.tell(part))
	}
	switch {
	case n.Op == api.OpConst:
		return e.constant(n.Name, n.Sort)
	case n.Op == api.OpIte && a[0].b:
		return a[1]
	case n.Op == api.OpIte:
		return a[2]
	}
	v := plain{sort: n.Sort}
	switch n.Sort {
	case api.SortBool:
		v.b = truthAnew(n.Op, a)
	case api.SortInt:
		v.n = numberAnew(n, a)
	default:
		v.s = textAnew(n, a)
	}
	return v
}

// constant is the value of the first bind of that name and sort.
func (e teller) constant(name string, sort int) plain {
	v := api.Value{Sort: sort}
	for _, x := range slices.Backward(e.l) {
		if x.Name == name && x.V.Sort == sort {
			v = x.V
		}
	}
	p := plain{sort: sort}
	switch sort {
	case api.SortBool:
		p.b = v.B
	case api.SortInt:
		p.n, _ = new(big.Int).SetString(whole.Text(v.I), 10)
	default:
		p.s = spelt(v.S)
	}
	return p
}

// spelt is a short text, code point by code point.
func spelt(s []api.Run) []rune {
	var l []rune
	for _, r := range s {
		l = append(l, slices.Repeat([]rune{rune(r.C)}, r.N)...)
	}
	return l
}

// pairs is whether something is so of each two of a that stand beside one another, or, if far, of each two.
func pairs(a []plain, far bool, is func(v, w plain) bool) bool {
	for i := range a {
		for j := i + 1; j < len(a); j++ {
			if (far || j == i+1) && !is(a[i], a[j]) {
				return false
			}
		}
	}
	return true
}

func truthAnew(op int, a []plain) bool {
	n := 0
	for _, v := range a {
		if v.b {
			n++
		}
	}
	order := func(signs ...int) bool {
		return pairs(a, false, func(v, w plain) bool { return slices.Contains(signs, v.n.Cmp(w.n)) })
	}
	switch op {
	case api.OpTrue:
		return true
	case api.OpNot:
		return n == 0
	case api.OpAnd:
		return n == len(a)
	case api.OpOr:
		return n > 0
	case api.OpImplies:
		return n != len(a)-1 || a[len(a)-1].b
	case api.OpXor:
		return n%2 == 1
	case api.OpEq:
		return pairs(a, true, plain.one)
	case api.OpDistinct:
		return pairs(a, true, func(v, w plain) bool { return !v.one(w) })
	case api.OpLe:
		return order(-1, 0)
	case api.OpLt:
		return order(-1)
	case api.OpGe:
		return order(1, 0)
	case api.OpGt:
		return order(1)
	case api.OpPrefix:
		return strings.HasPrefix(string(a[1].s), string(a[0].s))
	case api.OpSuffix:
		return strings.HasSuffix(string(a[1].s), string(a[0].s))
	case api.OpContains:
		return strings.Contains(string(a[0].s), string(a[1].s))
	}
	return false
}

func numberAnew(n api.Node, a []plain) *big.Int {
	sum := new(big.Int)
	if n.Op == api.OpNum {
		sum.SetString(whole.Text(n.Num), 10)
		return sum
	}
	if n.Op == api.OpLen {
		return sum.SetInt64(int64(len(a[0].s)))
	}
	if n.Op == api.OpIndex {
		return sum.SetInt64(int64(indexAnew(a[0].s, a[1].s, a[2].n)))
	}
	if n.Op == api.OpNeg {
		return sum.Neg(a[0].n)
	}
	sum.Set(a[0].n)
	for _, v := range a[1:] {
		switch n.Op {
		case api.OpAdd:
			sum.Add(sum, v.n)
		case api.OpSub:
			sum.Sub(sum, v.n)
		default:
			sum.Mul(sum, v.n)
		}
	}
	return sum
}

// indexAnew looks at each place, one by one.
func indexAnew(s, t []rune, from *big.Int) int {
	for i := 0; i+len(t) <= len(s); i++ {
		if big.NewInt(int64(i)).Cmp(from) >= 0 && from.Sign() >= 0 && slices.Equal(s[i:i+len(t)], t) {
			return i
		}
	}
	return -1
}

func textAnew(n api.Node, a []plain) []rune {
	var s []rune
	switch n.Op {
	case api.OpStr:
		return spelt(n.Str)
	case api.OpConcat:
		for _, v := range a {
			s = append(s, v.s...)
		}
		return s
	case api.OpReplace:
		return []rune(strings.Replace(string(a[0].s), string(a[1].s), string(a[2].s), 1))
	}
	// Each place is in the piece, if it is neither ahead of where that begins, nor behind its end.
	from, length := a[1].n, big.NewInt(1)
	if n.Op == api.OpSubstr {
		length = a[2].n
	}
	end := new(big.Int).Add(from, length)
	for i, c := range a[0].s {
		if at := big.NewInt(int64(i)); from.Sign() >= 0 && at.Cmp(from) >= 0 && at.Cmp(end) < 0 {
			s = append(s, c)
		}
	}
	return s
}

// maker makes terms by chance, one upon the other.
type maker struct {
	t   *testing.T
	r   *rand.Rand
	b   *term.Bank
	ids [4][]int // by their sorts
}

// stock is constants and literals of each sort.
func (m *maker) stock() {
	for _, script := range strings.Fields(`p q r x y z s t u true false 0 1 2 3 9223372036854775808 "" "a" "b" "ab" "aab" "\u{2ffff}a"`) {
		m.keep(made(m.t, m.b, script))
	}
}

// keep puts a term to those of its sort.
func (m *maker) keep(id int) {
	n, _ := m.b.At(id)
	m.ids[n.Sort] = append(m.ids[n.Sort], id)
}

// some is some term of a sort, one of the last ones as a rule.
func (m *maker) some(sort int) int {
	l := m.ids[sort]
	if len(l) > 6 && m.r.Intn(3) > 0 {
		l = l[len(l)-6:]
	}
	return l[m.r.Intn(len(l))]
}

// grow makes a term of any operation.
func (m *maker) grow() {
	op := api.OpNot + m.r.Intn(api.Ops-api.OpNot)
	any := 1 + m.r.Intn(3)
	sorts := map[int][]int{
		api.OpNot: {1}, api.OpIte: {1, any, any}, api.OpNeg: {2}, api.OpLen: {3}, api.OpAt: {3, 2}, api.OpSubstr: {3, 2, 2}, api.OpPrefix: {3, 3}, api.OpSuffix: {3, 3}, api.OpContains: {3, 3}, api.OpIndex: {3, 3, 2}, api.OpReplace: {3, 3, 3},
	}[op]
	if sorts == nil {
		each := any
		switch {
		case op <= api.OpXor:
			each = api.SortBool
		case op >= api.OpAdd && op <= api.OpGt:
			each = api.SortInt
		case op == api.OpConcat:
			each = api.SortStr
		}
		sorts = slices.Repeat([]int{each}, 2+m.r.Intn(3))
	}
	var a []int
	for _, sort := range sorts {
		a = append(a, m.some(sort))
	}
	// Products of unknowns may not be.
	if id, e := m.b.App(op, a); e == api.OK {
		m.keep(id)
	}
}

// assign is an assignment by chance, in which some constants are told more than once, or not.
func assign(r *rand.Rand) []bind {
	var l []bind
	for range r.Intn(14) {
		name := string("pqrxyzstu"[r.Intn(9)])
		switch r.Intn(3) {
		case 0:
			l = append(l, boolean(name, r.Intn(2) == 0))
		case 1:
			l = append(l, integer(name, []string{"-2", "-1", "0", "1", "2", "3", "5", "18446744073709551616", "-9223372036854775809"}[r.Intn(9)]))
		default:
			l = append(l, letters(name, []string{"", "a", "b", "ab", "ba", "aab", "abab", `\u{2ffff}`, `a\u{2ffff}a`}[r.Intn(9)]))
		}
	}
	return l
}

// Any terms are told as they are told anew, under any assignment.
func TestP111ByChance(t *testing.T) {
	seen := map[int]map[string]int{}
	for seed := range 1500 {
		r := rand.New(rand.NewSource(int64(seed)))
		m := &maker{t: t, r: r, b: &term.Bank{}}
		m.stock()
		for range 25 {
			m.grow()
		}
		for range 3 {
			anew := teller{m.b, assign(r)}
			for id := range m.b.Len() {
				want := anew.tell(id).value()
				wantValue(t, "seed "+strconv.Itoa(seed)+", term "+strconv.Itoa(id), m.b, id, want, anew.l...)
				n, _ := m.b.At(id)
				if seen[n.Op] == nil {
					seen[n.Op] = map[string]int{}
				}
				seen[n.Op][told(want)]++
			}
		}
		if t.Failed() {
			return
		}
	}
	for op := api.OpNot; op < api.Ops; op++ {
		if len(seen[op]) < 2 {
			t.Errorf("the operation %d was told as %v alone", op, seen[op])
		}
	}
}
