package show_test

import (
	"math"
	"testing"

	"gudgeon/api"
	"gudgeon/show"
	"gudgeon/term"
)

// called is what the operations from OpNot on are called, in order.
func called() []string {
	return []string{"not", "and", "or", "=>", "xor", "=", "distinct", "ite", "-", "+", "-", "*", "<=", "<", ">=", ">", "str.++", "str.len", "str.at", "str.substr", "str.prefixof", "str.suffixof", "str.contains", "str.indexof", "str.replace"}
}

func TestP121Name(t *testing.T) {
	for i, want := range called() {
		if got := show.Name(api.OpNot + i); got != want {
			t.Errorf("%d: %q, not %q", api.OpNot+i, got, want)
		}
	}
	if n := api.OpNot + len(called()); n != api.Ops {
		t.Errorf("%d names end at %d, not at %d", len(called()), n, api.Ops)
	}
}

func TestP121NameOfNone(t *testing.T) {
	none := []int{0, -1, -2, api.Ops, api.Ops + 1, 255, 256, math.MaxInt, math.MaxInt - 1, math.MinInt, math.MinInt + 1, 1 << 32, -1 << 32}
	for op := api.OpConst; op < api.OpNot; op++ {
		none = append(none, op)
	}
	for op := api.OpNot; op < api.Ops; op++ {
		none = append(none, -op, op+256, op+1<<32, op+math.MinInt)
	}
	for _, op := range none {
		if got := show.Name(op); got != "" {
			t.Errorf("%d: %q", op, got)
		}
	}
}

// Each operation that a bank takes has a name, and no other one has.
func TestP121NameOfWhatABankTakes(t *testing.T) {
	for op := -5; op < api.Ops+5; op++ {
		var b term.Bank
		_, e := b.App(op, nil)
		if named := show.Name(op) != ""; named != (e != api.ErrOp) {
			t.Errorf("%d: %q, but the bank tells error %d", op, show.Name(op), e)
		}
	}
}
