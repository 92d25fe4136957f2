package meter_test

import (
	"math"
	"math/big"
	"math/rand"
	"testing"

	"gudgeon/meter"
)

// most is the most that Spent tells.
const most = 1 << 62

// wantIs complains if Over or Spent answers otherwise; each is asked twice, as asking changes nothing.
func wantIs(t *testing.T, m *meter.Meter, over bool, spent int) {
	t.Helper()
	for range 2 {
		if m.Over() != over {
			t.Errorf("Over: not %v", over)
		}
		if n := m.Spent(); n != spent {
			t.Errorf("Spent: %d, not %d", n, spent)
		}
	}
}

// wantSpends complains if n can't be spent, or if other than spent was spent then.
func wantSpends(t *testing.T, m *meter.Meter, n, spent int) {
	t.Helper()
	if !m.Spend(n) {
		t.Errorf("Spend(%d): false", n)
	}
	wantIs(t, m, false, spent)
}

// wantEnds complains if n can be spent, if it is not over then, or if other than spent was spent.
func wantEnds(t *testing.T, m *meter.Meter, n, spent int) {
	t.Helper()
	if m.Spend(n) {
		t.Errorf("Spend(%d): true", n)
	}
	wantIs(t, m, true, spent)
}

// wantStaysOver complains if something can be spent of what is over, or is spent of it.
func wantStaysOver(t *testing.T, m *meter.Meter, spent int) {
	t.Helper()
	for _, n := range []int{0, 1, -1, 2, most, math.MinInt, math.MaxInt, 0} {
		wantEnds(t, m, n, spent)
	}
}

func TestP41Example(t *testing.T) {
	m := meter.New(5)
	wantIs(t, m, false, 0)
	wantSpends(t, m, 3, 3)
	wantEnds(t, m, 3, 3)
	wantEnds(t, m, 0, 3)
}

func TestP41OrdinaryBudgets(t *testing.T) {
	for _, budget := range []int{2, 3, 10, 1000, 123456789, 1 << 40} {
		m := meter.New(budget)
		wantSpends(t, m, budget-1, budget-1)
		wantSpends(t, m, 1, budget)
		wantEnds(t, m, 1, budget)
		wantStaysOver(t, m, budget)
	}
}

// What fits to the last step is spent, and that alone ends nothing.
func TestP41TheLastStepThatFits(t *testing.T) {
	m := meter.New(7)
	for i := range 7 {
		wantSpends(t, m, 1, i+1)
	}
	wantSpends(t, m, 0, 7)
	wantSpends(t, m, -1, 7)
	wantEnds(t, m, 1, 7)

	wantSpends(t, meter.New(7), 7, 7)
	wantEnds(t, meter.New(7), 8, 0)
}

func TestP41BudgetOf1(t *testing.T) {
	m := meter.New(1)
	wantSpends(t, m, 0, 0)
	wantSpends(t, m, 1, 1)
	wantSpends(t, m, 0, 1)
	wantEnds(t, m, 1, 1)
	wantEnds(t, meter.New(1), 2, 0)
	wantEnds(t, meter.New(1), math.MaxInt, 0)
}

// wantNeverOver spends more and more of a new meter without a budget.
func wantNeverOver(t *testing.T, m *meter.Meter) {
	t.Helper()
	wantIs(t, m, false, 0)
	wantSpends(t, m, 0, 0)
	wantSpends(t, m, -3, 0)
	wantSpends(t, m, 1, 1)
	wantSpends(t, m, 1000, 1001)
	wantSpends(t, m, most-1002, most-1)
	for _, n := range []int{1, 0, 1, -1, most, math.MaxInt, math.MinInt, math.MaxInt} {
		wantSpends(t, m, n, most)
	}
}

func TestP41NoBudget(t *testing.T) {
	for _, budget := range []int{0, -1, -2, -1000, -most, math.MinInt + 1, math.MinInt} {
		wantNeverOver(t, meter.New(budget))
	}
}

func TestP41NothingOrLessIsSpentAsNothing(t *testing.T) {
	for _, n := range []int{0, -1, -2, -1000, -most, math.MinInt + 1, math.MinInt} {
		for _, budget := range []int{0, 1, 5, math.MaxInt} {
			wantSpends(t, meter.New(budget), n, 0)
		}
		m := meter.New(5)
		wantSpends(t, m, 4, 4)
		wantSpends(t, m, n, 4)
		wantSpends(t, m, 1, 5)
		wantSpends(t, m, n, 5)
		wantEnds(t, m, 1, 5)
		wantEnds(t, m, n, 5)
	}
}

// What doesn't fit is not spent in part, and what would still fit is spent no more.
func TestP41OverThoughSomeIsLeft(t *testing.T) {
	m := meter.New(100)
	wantSpends(t, m, 40, 40)
	wantEnds(t, m, 61, 40)
	wantEnds(t, m, 60, 40)
	wantStaysOver(t, m, 40)
}

// What is spent together may be more than an int holds.
func TestR7AsMuchAsAnIntHolds(t *testing.T) {
	for _, budget := range []int{2, 100, most - 1, most, most + 1, math.MaxInt - 1, math.MaxInt} {
		m := meter.New(budget)
		wantSpends(t, m, 2, 2)
		wantEnds(t, m, math.MaxInt, 2)
		m = meter.New(budget)
		wantSpends(t, m, 1, 1)
		wantEnds(t, m, math.MaxInt, 1)
	}
	wantEnds(t, meter.New(math.MaxInt-1), math.MaxInt, 0)
	for _, first := range []int{1, 2, most - 1, most, math.MaxInt} {
		m := meter.New(0)
		wantSpends(t, m, first, min(first, most))
		wantSpends(t, m, math.MaxInt, most)
		wantSpends(t, m, math.MaxInt, most)
	}
}

func TestP41BudgetsAtTheMostThatIsTold(t *testing.T) {
	m := meter.New(most - 1)
	wantSpends(t, m, most-1, most-1)
	wantEnds(t, m, 1, most-1)
	m = meter.New(most)
	wantSpends(t, m, most-1, most-1)
	wantSpends(t, m, 1, most)
	wantSpends(t, m, 0, most)
	wantEnds(t, m, 1, most)
	wantEnds(t, meter.New(most), most+1, 0)
}

// With a budget above 2^62, it is what Spent tells that is held against it.
func TestP41BudgetsAboveTheMostThatIsTold(t *testing.T) {
	m := meter.New(most + 5)
	wantSpends(t, m, most, most)
	for range 4 {
		wantSpends(t, m, 5, most)
		wantSpends(t, m, 2, most)
	}
	wantEnds(t, m, 6, most)
	wantStaysOver(t, m, most)

	wantSpends(t, meter.New(most+5), most+5, most)
	wantEnds(t, meter.New(most+5), most+6, 0)

	m = meter.New(math.MaxInt)
	wantSpends(t, m, math.MaxInt, most)
	wantSpends(t, m, most-1, most)
	wantSpends(t, m, most-1, most)
	wantEnds(t, m, most, most)
}

func TestP41NilHasNoBudget(t *testing.T) {
	var m *meter.Meter
	wantIs(t, m, false, 0)
	for _, n := range []int{0, 1, -1, most, math.MaxInt, math.MinInt, math.MaxInt, 1} {
		wantSpends(t, m, n, 0)
	}
}

// The chapter says nothing of a zero Meter; it is like one that was made without a budget.
func TestR1ZeroHasNoBudget(t *testing.T) {
	wantNeverOver(t, new(meter.Meter))
	var m meter.Meter
	wantNeverOver(t, &m)
	ended := meter.New(1)
	wantEnds(t, ended, 2, 0)
	*ended = meter.Meter{}
	wantNeverOver(t, ended)
}

func TestP41MetersAreApart(t *testing.T) {
	a, b, c := meter.New(5), meter.New(5), meter.New(0)
	wantSpends(t, a, 4, 4)
	wantIs(t, b, false, 0)
	wantSpends(t, b, 1, 1)
	wantIs(t, a, false, 4)
	wantEnds(t, a, 2, 4)
	wantSpends(t, b, 4, 5)
	wantSpends(t, c, 6, 6)
	wantEnds(t, b, 1, 5)
	wantIs(t, a, true, 4)
	wantIs(t, c, false, 6)
}

func TestR3CopiesAreApart(t *testing.T) {
	a := meter.New(5)
	wantSpends(t, a, 3, 3)
	b := *a
	wantEnds(t, &b, 3, 3)
	wantSpends(t, a, 1, 4)
	wantEnds(t, a, 2, 4)
	wantIs(t, &b, true, 3)
	c := b
	wantStaysOver(t, &c, 3)
}

func TestR5AskingChangesNothing(t *testing.T) {
	asked, unasked := meter.New(50), meter.New(50)
	for i := range 20 {
		for range i {
			asked.Over()
			asked.Spent()
		}
		if a, b := asked.Spend(i), unasked.Spend(i); a != b {
			t.Errorf("Spend(%d): %v and %v", i, a, b)
		}
	}
	wantIs(t, unasked, true, asked.Spent())
	wantIs(t, asked, true, 45)
}

// plain is a meter told anew: in numbers without a bound.
type plain struct {
	budget, spent *big.Int
	limited, over bool
}

func newPlain(budget int) *plain {
	return &plain{budget: big.NewInt(int64(budget)), spent: new(big.Int), limited: budget >= 1}
}

func (p *plain) spend(n int) bool {
	if p.over {
		return false
	}
	together := big.NewInt(int64(max(n, 0)))
	together.Add(together, p.spent)
	if p.limited && together.Cmp(p.budget) > 0 {
		p.over = true
		return false
	}
	if p.spent = together; p.spent.Cmp(big.NewInt(most)) > 0 {
		p.spent = big.NewInt(most)
	}
	return true
}

// some is a number of any length of bits, now and then below 0, or at an edge.
func some(r *rand.Rand) int {
	n := int(r.Uint64() >> (1 + r.Intn(63)))
	switch r.Intn(12) {
	case 0:
		return -n
	case 1:
		return most + r.Intn(5) - 2
	case 2:
		return math.MaxInt - r.Intn(3)
	case 3:
		return 0
	}
	return n
}

// checkHolds complains if what follows (P4.2) does not hold of a meter that was over, or not, ahead of the last call.
func checkHolds(t *testing.T, m *meter.Meter, budget int, before bool) {
	t.Helper()
	if budget >= 1 && m.Spent() > budget || m.Spent() < 0 || m.Spent() > most {
		t.Errorf("%d of %d was spent", m.Spent(), budget)
	}
	if before && !m.Over() {
		t.Error("what was over is over no more")
	}
}

// checkTurns makes calls of a meter of that budget, and holds each against the meter that is told anew.
func checkTurns(t *testing.T, r *rand.Rand, budget int, step func() int) {
	t.Helper()
	m, p := meter.New(budget), newPlain(budget)
	for range 40 {
		before, n := m.Over(), step()
		if got, want := m.Spend(n), p.spend(n); got != want {
			t.Errorf("Spend(%d): %v, not %v", n, got, want)
		}
		wantIs(t, m, p.over, int(p.spent.Int64()))
		checkHolds(t, m, budget, before)
		if t.Failed() {
			t.Fatalf("of the budget %d", budget)
		}
	}
}

func TestP42Turns(t *testing.T) {
	r := rand.New(rand.NewSource(4))
	for range 3000 {
		checkTurns(t, r, some(r), func() int { return some(r) })
		small := r.Intn(300) - 20
		checkTurns(t, r, small, func() int { return r.Intn(25) - 3 })
		great := math.MaxInt - r.Intn(1<<20)
		checkTurns(t, r, great, func() int { return some(r) })
	}
}

// Whatever is asked of what is over, and however often, it stays over.
func TestP42OverStaysOver(t *testing.T) {
	for _, budget := range []int{1, 2, 5, most, most + 1, math.MaxInt - 1} {
		m := meter.New(budget)
		wantEnds(t, m, math.MaxInt, 0)
		for range 100 {
			wantEnds(t, m, 1, 0)
		}
		wantStaysOver(t, m, 0)
	}
}
