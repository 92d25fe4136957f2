package term

import (
	"strconv"

	"gudgeon/api"
)

// key is what tells a term from all others. The operation says what the list is of: parts, limbs or runs.
type key struct {
	op, sort int
	name     string
	list     string
}

// keyOf is the key of a term, whose number is in its own form (whole).
func keyOf(n api.Node) key {
	var l []byte
	for _, id := range n.A {
		l = spell(l, id)
	}
	for _, limb := range n.Num.N {
		l = spell(l, int(limb))
	}
	for _, r := range n.Str {
		l = spell(spell(l, r.C), r.N)
	}
	return key{n.Op, n.Sort, n.Name, string(l)}
}

// spell writes a number behind l, and where it ends, so that no two lists are spelt alike.
func spell(l []byte, n int) []byte {
	return append(strconv.AppendInt(l, int64(n), 10), ',')
}

// own is the same term, with lists that nobody else has.
func own(n api.Node) api.Node {
	n.A = append([]int(nil), n.A...)
	n.Num.N = append([]uint32(nil), n.Num.N...)
	n.Str = append([]api.Run(nil), n.Str...)
	return n
}
