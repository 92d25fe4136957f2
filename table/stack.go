package table

import "slices"

// Stack has things on top of one another, and marks between them.
type Stack[T any] struct {
	things []T
	marks  []int // for each mark, how many things lie below it
}

// Push lays x on top.
func (s *Stack[T]) Push(x T) {
	if s == nil {
		return
	}
	s.things = append(s.things, x)
}

// Pop takes the top one, if it lies above the last mark.
func (s *Stack[T]) Pop() (T, bool) {
	var top T
	if s == nil || len(s.things) <= s.floor() {
		return top, false
	}
	last := len(s.things) - 1
	top = s.things[last]
	s.things = lower(s.things, last)
	return top, true
}

// floor tells how many things lie below the last mark.
func (s *Stack[T]) floor() int {
	if len(s.marks) == 0 {
		return 0
	}
	return s.marks[len(s.marks)-1]
}

// All answers those that are there, the lowest one first.
func (s *Stack[T]) All() []T {
	if s == nil {
		return nil
	}
	return slices.Clone(s.things)
}

// Mark sets a mark above what is there.
func (s *Stack[T]) Mark() {
	if s == nil {
		return
	}
	s.marks = append(s.marks, len(s.things))
}

// Back lets all above the last mark go, and the mark; it tells whether there was one.
func (s *Stack[T]) Back() bool {
	if s.Marks() == 0 {
		return false
	}
	s.things = lower(s.things, s.floor())
	s.marks = lower(s.marks, len(s.marks)-1)
	return true
}

// Marks tells how many marks there are.
func (s *Stack[T]) Marks() int {
	if s == nil {
		return 0
	}
	return len(s.marks)
}
