package table

import "testing"

// wantWiped complains if something stays behind a list's end.
func wantWiped(t *testing.T, list []*int) {
	t.Helper()
	for i, x := range list[len(list):cap(list)] {
		if x != nil {
			t.Errorf("kept behind the end, at %d", i)
		}
	}
}

// What went is kept no longer: nothing of it is needed by what may be asked.
func TestP33WhatWentIsNotKept(t *testing.T) {
	var b Table[*int]
	var s Stack[*int]
	for range 9 {
		b.Add(new(int))
		s.Push(new(int))
	}
	b.Cut(4)
	wantWiped(t, b.keys)
	if len(b.numbers) != 4 {
		t.Errorf("%d are noted, not 4", len(b.numbers))
	}
	s.Pop()
	wantWiped(t, s.things)
	s.Mark()
	s.Push(new(int))
	s.Push(new(int))
	s.Back()
	wantWiped(t, s.things)
	b.Cut(-1)
	wantWiped(t, b.keys)
	if len(b.numbers) != 0 {
		t.Errorf("%d are noted, though none is there", len(b.numbers))
	}
}

// A key that is unlike itself can't be let go by a map, so none takes it up.
func TestP33WhatIsUnlikeItselfIsNotNoted(t *testing.T) {
	var b Table[any]
	zero := 0.0
	for range 5 {
		b.Add(zero / zero)
		b.Add([]int{})
	}
	if b.Len() != 10 || len(b.numbers) != 0 {
		t.Errorf("%d, %d noted", b.Len(), len(b.numbers))
	}
}
