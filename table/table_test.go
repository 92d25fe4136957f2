package table_test

import (
	"math"
	"math/rand"
	"slices"
	"strings"
	"testing"

	"gudgeon/table"
)

// point is a kind of key whose parts are compared one by one.
type point struct {
	name string
	at   [2]int
}

// boxed is a kind of key that can be compared or not, by what it holds.
type boxed struct {
	n int
	x any
}

// wantAdd complains if Add of k answers otherwise.
func wantAdd[K comparable](t *testing.T, b *table.Table[K], k K, n int, added bool) {
	t.Helper()
	if got, is := b.Add(k); got != n || is != added {
		t.Errorf("Add(%v): %d %v, not %d %v", k, got, is, n, added)
	}
}

// wantHas complains if what is there is not keys, found from both sides.
func wantHas[K comparable](t *testing.T, b *table.Table[K], keys ...K) {
	t.Helper()
	if b.Len() != len(keys) {
		t.Errorf("Len: %d, not %d", b.Len(), len(keys))
	}
	for i, k := range keys {
		if got, there := b.At(i); got != k || !there {
			t.Errorf("At(%d): %v %v, not %v", i, got, there, k)
		}
		if n, there := b.Find(k); n != i || !there {
			t.Errorf("Find(%v): %d %v, not %d", k, n, there, i)
		}
	}
	wantNoneAt(t, b, math.MinInt, -2, -1, len(keys), len(keys)+1, math.MaxInt)
}

// wantNoneAt complains if something has one of the numbers.
func wantNoneAt[K comparable](t *testing.T, b *table.Table[K], numbers ...int) {
	t.Helper()
	var none K
	for _, i := range numbers {
		if k, there := b.At(i); k != none || there {
			t.Errorf("At(%d): %v %v", i, k, there)
		}
	}
}

// wantLacks complains if one of the keys is found.
func wantLacks[K comparable](t *testing.T, b *table.Table[K], keys ...K) {
	t.Helper()
	for _, k := range keys {
		if n, there := b.Find(k); n != 0 || there {
			t.Errorf("Find(%v): %d %v, though it is not there", k, n, there)
		}
	}
}

// filled is a table of these keys, which are all different.
func filled[K comparable](t *testing.T, keys ...K) *table.Table[K] {
	t.Helper()
	b := new(table.Table[K])
	for i, k := range keys {
		wantAdd(t, b, k, i, true)
	}
	wantHas(t, b, keys...)
	return b
}

func TestP31Example(t *testing.T) {
	var b table.Table[string]
	wantAdd(t, &b, "a", 0, true)
	wantAdd(t, &b, "b", 1, true)
	wantAdd(t, &b, "a", 0, false)
	b.Cut(1)
	wantAdd(t, &b, "c", 1, true)
	wantHas(t, &b, "a", "c")
	wantLacks(t, &b, "b", "")
}

func TestP31ZeroHasNothing(t *testing.T) {
	var s table.Table[string]
	wantHas(t, &s)
	wantLacks(t, &s, "", "a")
	var p table.Table[point]
	wantHas(t, &p)
	wantLacks(t, &p, point{}, point{name: "a"})
	for _, n := range []int{math.MinInt, -1, 0, 1, math.MaxInt} {
		s.Cut(n)
		p.Cut(n)
	}
	wantHas(t, &s)
	wantAdd(t, &s, "", 0, true)
	wantHas(t, &s, "")
	wantAdd(t, &p, point{}, 0, true)
	wantHas(t, &p, point{})
}

func TestP31NilHasNothing(t *testing.T) {
	var s *table.Table[string]
	var i *table.Table[int]
	for range 2 {
		wantAdd(t, s, "a", -1, false)
		wantAdd(t, s, "", -1, false)
		wantAdd(t, i, 0, -1, false)
		wantHas(t, s)
		wantHas(t, i)
		wantLacks(t, s, "", "a")
		wantLacks(t, i, 0, -1)
		for _, n := range []int{math.MinInt, -1, 0, 1, math.MaxInt} {
			s.Cut(n)
			i.Cut(n)
		}
	}
}

// checkKind goes once through all calls with four different keys.
func checkKind[K comparable](t *testing.T, a, b, c, d K) {
	t.Helper()
	x := filled(t, a, b, c)
	wantLacks(t, x, d)
	for i, k := range []K{a, b, c} {
		wantAdd(t, x, k, i, false)
	}
	wantHas(t, x, a, b, c)
	x.Cut(1)
	wantHas(t, x, a)
	wantLacks(t, x, b, c, d)
	wantAdd(t, x, d, 1, true)
	wantAdd(t, x, c, 2, true)
	wantAdd(t, x, b, 3, true)
	wantHas(t, x, a, d, c, b)
}

func TestP31Kinds(t *testing.T) {
	checkKind(t, "", "a", "A", "a\x00")
	checkKind(t, 0, -1, math.MaxInt, math.MinInt)
	checkKind(t, point{}, point{name: "a"}, point{at: [2]int{0, 1}}, point{at: [2]int{1, 0}})
	checkKind(t, [3]bool{}, [3]bool{true}, [3]bool{false, true}, [3]bool{true, true, true})
	checkKind(t, 0.5, math.Inf(1), math.Inf(-1), 0)
	checkKind(t, new(int), new(int), nil, new(int))
	checkKind[any](t, 1, "1", nil, int64(1))
	checkKind(t, boxed{}, boxed{n: 1}, boxed{x: 1}, boxed{x: "1"})
}

func TestP31OfOneValueAlone(t *testing.T) {
	b := filled(t, struct{}{})
	wantAdd(t, b, struct{}{}, 0, false)
	b.Cut(0)
	if n, there := b.Find(struct{}{}); n != 0 || there || b.Len() != 0 {
		t.Errorf("%d %v %d", n, there, b.Len())
	}
}

func TestP31EqualTextsOfDifferentMemory(t *testing.T) {
	b := filled(t, "lime", "lemon")
	wantAdd(t, b, strings.Clone("lemon"), 1, false)
	wantAdd(t, b, "le"+strings.Repeat("mon", 1), 1, false)
	wantHas(t, b, "lime", "lemon")
}

func TestP31Cut(t *testing.T) {
	for _, c := range []struct {
		n    int
		left []string
	}{
		{math.MinInt, nil}, {-2, nil}, {-1, nil}, {0, nil}, {1, []string{"a"}}, {2, []string{"a", "b"}},
		{3, []string{"a", "b", "c"}}, {4, []string{"a", "b", "c"}}, {math.MaxInt, []string{"a", "b", "c"}},
	} {
		b := filled(t, "a", "b", "c")
		for range 2 {
			b.Cut(c.n)
			wantHas(t, b, c.left...)
			wantLacks(t, b, []string{"a", "b", "c"}[len(c.left):]...)
		}
		wantAdd(t, b, "d", len(c.left), true)
	}
}

func TestP31WhatWasCutComesAgain(t *testing.T) {
	b := filled(t, "a", "b", "c")
	b.Cut(1)
	wantAdd(t, b, "c", 1, true)
	wantAdd(t, b, "c", 1, false)
	wantAdd(t, b, "b", 2, true)
	wantHas(t, b, "a", "c", "b")
	b.Cut(2)
	wantHas(t, b, "a", "c")
	wantLacks(t, b, "b")
	b.Cut(-1)
	wantAdd(t, b, "b", 0, true)
	wantHas(t, b, "b")
	wantLacks(t, b, "a", "c")
}

func TestP31TablesAreApart(t *testing.T) {
	a, b := filled(t, 1, 2), filled(t, 2, 3, 1)
	a.Cut(1)
	wantHas(t, a, 1)
	wantHas(t, b, 2, 3, 1)
	wantAdd(t, a, 3, 1, true)
	wantAdd(t, b, 4, 3, true)
	wantHas(t, a, 1, 3)
	wantHas(t, b, 2, 3, 1, 4)
}

// A nought below 0 and one above are one value of Go; a NaN is none, not even itself.
func TestP31Floats(t *testing.T) {
	minus := math.Copysign(0, -1)
	b := filled(t, 0.0, 1)
	wantAdd(t, b, minus, 0, false)
	wantAdd(t, b, math.NaN(), 2, true)
	wantAdd(t, b, math.NaN(), 3, true)
	wantLacks(t, b, math.NaN())
	if k, there := b.At(2); k == k || !there || b.Len() != 4 {
		t.Errorf("At(2): %v %v of %d", k, there, b.Len())
	}
	b.Cut(3)
	b.Cut(1)
	wantHas(t, b, 0)
	wantAdd(t, b, 1, 1, true)
	wantHas(t, b, 0, 1)
}

// unlike are keys that Go can't hold against each other: of an interface, or with one inside.
func unlike() []any {
	return []any{
		[]int{1}, []int(nil), map[string]int{}, func() {}, [1]any{[]int{}},
		boxed{x: []int{}}, struct{ f func() }{}, [2][]string{}, math.NaN(), boxed{x: math.NaN()},
	}
}

func TestP1KeysThatCannotBeCompared(t *testing.T) {
	b := new(table.Table[any])
	wantAdd[any](t, b, "a", 0, true)
	for i, k := range unlike() {
		wantLacks(t, b, k)
		wantAdd(t, b, k, i+1, true)
		wantLacks(t, b, k)
		if _, there := b.At(i + 1); !there || b.Len() != i+2 {
			t.Errorf("%d is not there", i+1)
		}
	}
	n := b.Len()
	wantAdd[any](t, b, "b", n, true)
	wantAdd[any](t, b, "a", 0, false)
	b.Cut(4)
	wantLacks[any](t, b, "b")
	wantAdd[any](t, b, "c", 4, true)
	b.Cut(1)
	wantHas[any](t, b, "a")
	b.Cut(-1)
	wantHas(t, b)
	var none *table.Table[any]
	for _, k := range unlike() {
		wantAdd(t, none, k, -1, false)
		wantLacks(t, none, k)
	}
}

func TestP1KeysWithPartsThatCannotBeCompared(t *testing.T) {
	b := filled(t, boxed{n: 1, x: 1})
	bad := boxed{n: 1, x: []int{}}
	for i := range 3 {
		wantAdd(t, b, bad, i+1, true)
		wantLacks(t, b, bad)
	}
	b.Cut(2)
	wantAdd(t, b, boxed{n: 2}, 2, true)
	b.Cut(1)
	wantHas(t, b, boxed{n: 1, x: 1})
}

// A pointer is found as that pointer, whatever it points to now; a key that was handed in as an array stays as it was.
func TestR3KeysStay(t *testing.T) {
	p, q := new(int), new(int)
	b := filled(t, p)
	*p, *q = 5, 5
	wantLacks(t, b, q)
	wantHas(t, b, p)
	if *p != 5 {
		t.Error("what was handed in was changed")
	}
	k := [2]int{1, 2}
	c := filled(t, k)
	k[0] = 9
	wantLacks(t, c, k)
	got, _ := c.At(0)
	got[1] = 9
	wantHas(t, c, [2]int{1, 2})
}

// plain is a table told anew: a list gone through from its beginning.
type plain[K comparable] struct{ keys []K }

func (p *plain[K]) add(k K) (int, bool) {
	if n := slices.Index(p.keys, k); n >= 0 {
		return n, false
	}
	p.keys = append(slices.Clone(p.keys), k)
	return len(p.keys) - 1, true
}

func (p *plain[K]) cut(n int) { p.keys = p.keys[:min(max(n, 0), len(p.keys))] }

// checkWalk makes many calls, and holds each against the list that is told anew.
func checkWalk[K comparable](t *testing.T, seed int64, key func(i int) K) {
	t.Helper()
	r := rand.New(rand.NewSource(seed))
	var b table.Table[K]
	var p plain[K]
	for range 3000 {
		switch r.Intn(8) {
		case 0:
			n := r.Intn(len(p.keys)+4) - 1
			b.Cut(n)
			p.cut(n)
		case 1:
			n := len(p.keys) - r.Intn(3)
			b.Cut(n)
			p.cut(n)
		default:
			k := key(r.Intn(60))
			n, added := p.add(k)
			wantAdd(t, &b, k, n, added)
		}
		if t.Failed() {
			t.Fatalf("of seed %d", seed)
		}
	}
	wantHas(t, &b, p.keys...)
	for i := range 60 {
		if k := key(i); !slices.Contains(p.keys, k) {
			wantLacks(t, &b, k)
		}
	}
}

func TestP33Walks(t *testing.T) {
	for seed := range int64(20) {
		checkWalk(t, seed, func(i int) string { return strings.Repeat("x", i) })
		checkWalk(t, seed, func(i int) int { return i - 30 })
		checkWalk(t, seed, func(i int) point { return point{"a", [2]int{i % 7, i / 7}} })
		checkWalk(t, seed, func(i int) any {
			if i%2 == 0 {
				return i
			}
			return float64(i - 1)
		})
	}
}

// Whatever came and went, a number has one thing, and a thing one number, till it is cut.
func TestP33NumbersHold(t *testing.T) {
	var b table.Table[int]
	const many = 5000
	for i := range many {
		wantAdd(t, &b, i*i-7, i, true)
	}
	for i := range many {
		wantAdd(t, &b, i*i-7, i, false)
	}
	b.Cut(many / 2)
	for i := range many {
		k, at := b.At(i)
		n, found := b.Find(i*i - 7)
		if want := i < many/2; at != want || found != want || want && (k != i*i-7 || n != i) {
			t.Fatalf("%d: %d %v %d %v", i, k, at, n, found)
		}
	}
}

func TestR5SameCallsAnswerTheSame(t *testing.T) {
	run := func() []int {
		r := rand.New(rand.NewSource(3))
		var b table.Table[int]
		var out []int
		for range 500 {
			n, _ := b.Add(r.Intn(40))
			m, _ := b.Find(r.Intn(40))
			k, _ := b.At(r.Intn(40))
			if r.Intn(9) == 0 {
				b.Cut(r.Intn(40))
			}
			out = append(out, n, m, k, b.Len())
		}
		return out
	}
	first := run()
	for range 3 {
		if !slices.Equal(run(), first) {
			t.Fatal("the same calls answer otherwise")
		}
	}
}
