package table_test

import (
	"math/rand"
	"slices"
	"testing"

	"gudgeon/table"
)

// wantAll complains if other things, or another number of marks, are there.
func wantAll[T comparable](t *testing.T, s *table.Stack[T], marks int, things ...T) {
	t.Helper()
	if all := s.All(); !slices.Equal(all, things) {
		t.Errorf("All: %v, not %v", all, things)
	}
	if s.Marks() != marks {
		t.Errorf("Marks: %d, not %d", s.Marks(), marks)
	}
}

// wantPop complains if Pop answers otherwise.
func wantPop[T comparable](t *testing.T, s *table.Stack[T], x T, there bool) {
	t.Helper()
	if got, is := s.Pop(); got != x || is != there {
		t.Errorf("Pop: %v %v, not %v %v", got, is, x, there)
	}
}

// wantBack complains if Back answers otherwise.
func wantBack[T any](t *testing.T, s *table.Stack[T], there bool) {
	t.Helper()
	if s.Back() != there {
		t.Errorf("Back: not %v", there)
	}
}

// piled is a stack of these things.
func piled[T any](things ...T) *table.Stack[T] {
	s := new(table.Stack[T])
	for _, x := range things {
		s.Push(x)
	}
	return s
}

func TestP32Example(t *testing.T) {
	var s table.Stack[int]
	s.Push(1)
	s.Mark()
	s.Push(2)
	wantPop(t, &s, 2, true)
	wantPop(t, &s, 0, false)
	wantBack(t, &s, true)
	wantAll(t, &s, 0, 1)
}

func TestP32ZeroHasNothing(t *testing.T) {
	var s table.Stack[string]
	var p table.Stack[point]
	for range 2 {
		wantAll(t, &s, 0)
		wantAll(t, &p, 0)
		wantPop(t, &s, "", false)
		wantPop(t, &p, point{}, false)
		wantBack(t, &s, false)
		wantBack(t, &p, false)
	}
	s.Push("")
	wantAll(t, &s, 0, "")
	wantPop(t, &s, "", true)
	wantPop(t, &s, "", false)
}

func TestP32NilHasNothing(t *testing.T) {
	var s *table.Stack[string]
	var p *table.Stack[*int]
	for range 2 {
		s.Push("a")
		p.Push(new(int))
		s.Mark()
		p.Mark()
		wantAll(t, s, 0)
		wantAll(t, p, 0)
		wantPop(t, s, "", false)
		wantPop(t, p, nil, false)
		wantBack(t, s, false)
		wantBack(t, p, false)
	}
}

// checkThings goes once through all calls with three things, two of which may be one.
func checkThings[T comparable](t *testing.T, a, b, c T) {
	t.Helper()
	var none T
	s := piled(a, b, b, c)
	wantAll(t, s, 0, a, b, b, c)
	wantPop(t, s, c, true)
	wantPop(t, s, b, true)
	wantAll(t, s, 0, a, b)
	s.Mark()
	wantPop(t, s, none, false)
	s.Push(c)
	wantAll(t, s, 1, a, b, c)
	wantBack(t, s, true)
	wantAll(t, s, 0, a, b)
	wantPop(t, s, b, true)
	wantPop(t, s, a, true)
	wantPop(t, s, none, false)
	wantAll(t, s, 0)
}

func TestP32Kinds(t *testing.T) {
	checkThings(t, 1, 2, 0)
	checkThings(t, "a", "", "ab")
	checkThings(t, point{name: "a"}, point{}, point{at: [2]int{1, 2}})
	checkThings(t, [2]bool{true}, [2]bool{}, [2]bool{true, true})
	checkThings(t, new(int), nil, new(int))
	checkThings[any](t, "a", 1, nil)
	checkThings(t, true, false, true)
}

// Things that Go can't compare are as good as others.
func TestP32ThingsWithoutAnOrder(t *testing.T) {
	s := piled([]int{1}, nil, []int{2, 3})
	s.Mark()
	s.Push([]int{4})
	if all := s.All(); len(all) != 4 || !slices.Equal(all[0], []int{1}) || all[1] != nil || !slices.Equal(all[3], []int{4}) {
		t.Errorf("%v", all)
	}
	if x, there := s.Pop(); !there || !slices.Equal(x, []int{4}) {
		t.Errorf("%v %v", x, there)
	}
	if x, there := s.Pop(); there || x != nil {
		t.Errorf("%v %v", x, there)
	}
	f := piled(func() int { return 7 })
	if x, there := f.Pop(); !there || x() != 7 {
		t.Error("another function")
	}
	e := piled(struct{}{}, struct{}{})
	if len(e.All()) != 2 {
		t.Error("not two")
	}
}

func TestP32PopAtAMark(t *testing.T) {
	s := piled(1, 2, 3)
	s.Mark()
	for range 3 {
		wantPop(t, s, 0, false)
	}
	wantAll(t, s, 1, 1, 2, 3)
	s.Push(4)
	s.Push(5)
	wantPop(t, s, 5, true)
	wantPop(t, s, 4, true)
	wantPop(t, s, 0, false)
	wantAll(t, s, 1, 1, 2, 3)
	wantBack(t, s, true)
	wantPop(t, s, 3, true)
	wantAll(t, s, 0, 1, 2)
}

func TestP32MarkOnNothing(t *testing.T) {
	var s table.Stack[string]
	s.Mark()
	wantAll(t, &s, 1)
	wantPop(t, &s, "", false)
	s.Push("a")
	wantAll(t, &s, 1, "a")
	wantBack(t, &s, true)
	wantAll(t, &s, 0)
	wantBack(t, &s, false)
}

func TestP32BackWithoutAMark(t *testing.T) {
	s := piled("a", "b")
	wantBack(t, s, false)
	wantAll(t, s, 0, "a", "b")
	s.Mark()
	wantBack(t, s, true)
	wantBack(t, s, false)
	wantAll(t, s, 0, "a", "b")
}

func TestP32MarksAtOneHeight(t *testing.T) {
	s := piled("a")
	for i := range 3 {
		s.Mark()
		wantAll(t, s, i+1, "a")
	}
	s.Push("b")
	wantBack(t, s, true)
	wantAll(t, s, 2, "a")
	wantPop(t, s, "", false)
	wantBack(t, s, true)
	wantPop(t, s, "", false)
	s.Push("c")
	wantAll(t, s, 1, "a", "c")
	wantBack(t, s, true)
	wantAll(t, s, 0, "a")
	wantBack(t, s, false)
	wantPop(t, s, "a", true)
}

func TestP32PushBehindABack(t *testing.T) {
	s := piled(1)
	s.Mark()
	s.Push(2)
	s.Mark()
	s.Push(3)
	s.Push(4)
	wantBack(t, s, true)
	s.Push(5)
	wantAll(t, s, 1, 1, 2, 5)
	s.Mark()
	s.Push(6)
	wantAll(t, s, 2, 1, 2, 5, 6)
	wantBack(t, s, true)
	wantBack(t, s, true)
	s.Push(7)
	wantAll(t, s, 0, 1, 7)
	wantPop(t, s, 7, true)
	wantPop(t, s, 1, true)
	wantPop(t, s, 0, false)
}

// What was popped below no mark, ahead of one, is not brought back.
func TestP33BackLeavesWhatWasThere(t *testing.T) {
	s := piled(1, 2, 3)
	wantPop(t, s, 3, true)
	s.Mark()
	for i := range 100 {
		s.Push(i)
	}
	s.Mark()
	s.Push(-1)
	wantPop(t, s, -1, true)
	wantBack(t, s, true)
	for i := range 60 {
		wantPop(t, s, 99-i, true)
	}
	wantBack(t, s, true)
	wantAll(t, s, 0, 1, 2)
}

func TestR3AllIsTheCallers(t *testing.T) {
	s := piled("a", "b", "c")
	first, second := s.All(), s.All()
	first[0] = "x"
	_ = append(first[:1], "y", "z")
	wantAll(t, s, 0, "a", "b", "c")
	if !slices.Equal(second, []string{"a", "b", "c"}) {
		t.Errorf("two answers share: %v", second)
	}
	_ = append(s.All(), "w")
	s.Push("d")
	wantAll(t, s, 0, "a", "b", "c", "d")
}

func TestR3AllIsNotChangedLater(t *testing.T) {
	s := piled("a")
	s.Mark()
	s.Push("b")
	s.Push("c")
	kept := s.All()
	late := append(s.All(), "own")
	s.Push("d")
	wantPop(t, s, "d", true)
	wantPop(t, s, "c", true)
	s.Push("e")
	wantBack(t, s, true)
	s.Push("f")
	s.Push("g")
	if !slices.Equal(kept, []string{"a", "b", "c"}) || !slices.Equal(late, []string{"a", "b", "c", "own"}) {
		t.Errorf("what All answered was changed: %v %v", kept, late)
	}
	wantAll(t, s, 0, "a", "f", "g")
}

func TestR3WhatIsHandedInStays(t *testing.T) {
	list, array, p := []int{1, 2}, [2]int{1, 2}, new(int)
	s, a, q := piled(list), piled(array), piled(p)
	array[0] = 9
	wantAll(t, a, 0, [2]int{1, 2})
	s.Mark()
	s.Push(nil)
	wantBack(t, s, true)
	if x, there := s.Pop(); !there || !slices.Equal(x, []int{1, 2}) || !slices.Equal(list, []int{1, 2}) {
		t.Errorf("%v %v %v", x, there, list)
	}
	if x, there := q.Pop(); !there || x != p || *p != 0 {
		t.Errorf("%v %v", x, there)
	}
}

func TestP32StacksAreApart(t *testing.T) {
	a, b := piled(1, 2), piled(3)
	a.Mark()
	b.Push(4)
	a.Push(5)
	wantAll(t, a, 1, 1, 2, 5)
	wantAll(t, b, 0, 3, 4)
	wantBack(t, b, false)
	wantBack(t, a, true)
	wantAll(t, b, 0, 3, 4)
}

// levels is a stack told anew: a list for each mark, and one below them.
type levels[T any] struct{ lists [][]T }

func (l *levels[T]) top() *[]T { return &l.lists[len(l.lists)-1] }

func (l *levels[T]) pop() (T, bool) {
	var x T
	top := l.top()
	if len(*top) == 0 {
		return x, false
	}
	x = (*top)[len(*top)-1]
	*top = slices.Clone((*top)[:len(*top)-1])
	return x, true
}

func (l *levels[T]) back() bool {
	if len(l.lists) == 1 {
		return false
	}
	l.lists = l.lists[:len(l.lists)-1]
	return true
}

// checkTurns makes many calls, and holds each against the lists that are told anew.
func checkTurns[T comparable](t *testing.T, seed int64, thing func(i int) T) {
	t.Helper()
	r := rand.New(rand.NewSource(seed))
	var s table.Stack[T]
	l := levels[T]{lists: [][]T{nil}}
	for i := range 2000 {
		switch r.Intn(10) {
		case 0:
			s.Mark()
			l.lists = append(l.lists, nil)
		case 1:
			wantBack(t, &s, l.back())
		case 2, 3, 4:
			x, there := l.pop()
			wantPop(t, &s, x, there)
		default:
			s.Push(thing(i))
			*l.top() = append(slices.Clone(*l.top()), thing(i))
		}
		if wantAll(t, &s, len(l.lists)-1, slices.Concat(l.lists...)...); t.Failed() {
			t.Fatalf("of seed %d, at call %d", seed, i)
		}
	}
}

func TestP33Turns(t *testing.T) {
	for seed := range int64(10) {
		checkTurns(t, seed, func(i int) int { return i })
		checkTurns(t, seed, func(i int) string { return string(rune('a' + i%26)) })
		checkTurns(t, seed, func(i int) point { return point{at: [2]int{i, i / 3}} })
	}
}
