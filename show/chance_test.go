package show_test

import (
	"math/rand"
	"strconv"
	"strings"
	"testing"

	"gudgeon/api"
	"gudgeon/show"
	"gudgeon/term"
)

// teller tells the terms of a bank anew, all of them, from the first one on.
type teller struct {
	size, depth []int
	short       []bool
	text        []string
}

// tell is what is to be told of all terms of a bank.
func tell(b *term.Bank) *teller {
	m := &teller{}
	for id := range b.Len() {
		n, _ := b.At(id)
		m.add(n)
	}
	return m
}

// add tells the next term.
func (m *teller) add(n api.Node) {
	size, depth, short, parts := 1, 0, true, []string{}
	if n.Op >= api.OpNot {
		size, depth, parts = 2, 1, append(parts, called()[n.Op-api.OpNot])
	}
	for _, id := range n.A {
		// No more than is too long or too deep needs be known.
		size = min(size+m.size[id], 5000)
		depth = min(max(depth, m.depth[id]+1), 100)
		short = short && m.short[id]
		parts = append(parts, m.text[id])
	}
	text := ""
	switch {
	case n.Op >= api.OpNot && size <= 2000 && depth <= 64 && short:
		text = "(" + strings.Join(parts, " ") + ")"
	case n.Op == api.OpStr:
		points := 0
		for _, r := range n.Str {
			points += r.N
		}
		short = points <= 1000
		text = quoted(n.Str)
	case n.Op == api.OpNum:
		text = decimal(n.Num)
	case n.Op < api.OpNot:
		text = map[int]string{api.OpConst: n.Name, api.OpTrue: "true", api.OpFalse: "false"}[n.Op]
	}
	m.size, m.depth, m.short, m.text = append(m.size, size), append(m.depth, depth), append(m.short, short), append(m.text, text)
}

// quoted is the literal of a text that has no more than 1000 code points.
func quoted(s []api.Run) string {
	var b strings.Builder
	for _, r := range s {
		c := `\u{` + strconv.FormatInt(int64(r.C), 16) + "}"
		if r.C >= ' ' && r.C <= '~' && r.C != '\\' {
			c = strings.ReplaceAll(string(rune(r.C)), `"`, `""`)
		}
		b.WriteString(strings.Repeat(c, min(r.N, 1001)))
	}
	return `"` + b.String() + `"`
}

// someRuns is a text by chance, mostly a short one.
func someRuns(r *rand.Rand) []api.Run {
	var s []api.Run
	points := []int{'a', 'b', 'z', '"', '\\', 'u', '{', '}', 0, 10, 127, 255, 0x2ffff, ' ', '~'}
	for range r.Intn(5) {
		n := 1 + r.Intn(3)
		if r.Intn(12) == 0 {
			n = []int{990, 1000, 1001, 400, 1 << 33}[r.Intn(5)]
		}
		c := points[r.Intn(len(points))]
		if len(s) == 0 || s[len(s)-1].C != c {
			s = append(s, run(c, n))
		}
	}
	return s
}

// someLeaf lays a term without parts into a bank.
func someLeaf(r *rand.Rand, b *term.Bank) {
	switch r.Intn(5) {
	case 0:
		sort := 1 + r.Intn(3)
		b.Const([]string{"pqr", "xyz", "stu"}[sort-1][r.Intn(3):][:1], sort)
	case 1:
		b.Bool(r.Intn(2) == 0)
	case 2:
		n := api.Whole{N: make([]uint32, r.Intn(4))}
		for i := range n.N {
			n.N[i] = r.Uint32() >> r.Intn(33)
		}
		b.Num(n)
	default:
		b.Str(someRuns(r))
	}
}

// someTerm lays a term of any kind into a bank, of terms that are mostly among the last ones.
func someTerm(r *rand.Rand, b *term.Bank) {
	if r.Intn(4) == 0 || b.Len() < 5 {
		someLeaf(r, b)
		return
	}
	parts := make([]int, 1+r.Intn(4))
	if r.Intn(20) == 0 {
		parts = make([]int, 1+r.Intn(200))
	}
	reach := 1 + r.Intn(b.Len())
	for i := range parts {
		parts[i] = b.Len() - 1 - r.Intn(reach)
	}
	b.App(api.OpNot+r.Intn(api.Ops-api.OpNot), parts)
}

func TestP121AnyTerms(t *testing.T) {
	r := rand.New(rand.NewSource(1))
	told, long := map[int]int{}, 0
	for range 900 {
		var b term.Bank
		for range 200 {
			someTerm(r, &b)
		}
		m := tell(&b)
		for id := range b.Len() {
			x, e := show.Term(&b, id)
			if m.size[id] > 2000 || m.depth[id] > 64 || !m.short[id] {
				wantNone(t, m.text[id], x, e, api.ErrLong)
				long++
				continue
			}
			wantSays(t, m.text[id], x, e, m.text[id])
			n, _ := b.At(id)
			told[n.Op]++
		}
	}
	for op := api.OpConst; op < api.Ops; op++ {
		if told[op] < 20 {
			t.Errorf("operation %d was told only %d times", op, told[op])
		}
	}
	if long < 500 {
		t.Errorf("only %d terms were too long", long)
	}
}

// What a term is told by says that term, in its own bank and in one that has nothing.
func TestP123AnyTerms(t *testing.T) {
	r := rand.New(rand.NewSource(2))
	for range 100 {
		var b term.Bank
		for range 150 {
			someTerm(r, &b)
		}
		for id := range b.Len() {
			x, e := show.Term(&b, id)
			if e != api.OK {
				continue
			}
			wantSame(t, &b, id, x)
		}
	}
}
