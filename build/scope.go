package build

import (
	"slices"

	"gudgeon/api"
)

// scope is some names, and the numbers of the terms that they say. Behind that of a body nothing is
// said but by the declarations ahead of it: nobody sees from there what its caller has bound.
type scope struct {
	terms map[string]int
	body  bool
	ahead int
}

// bound is what names say, each the term of its place; of two of one name the last one counts.
func bound(names []string, ids []int) map[string]int {
	terms := map[string]int{}
	for i, name := range names {
		terms[name] = ids[i]
	}
	return terms
}

// The kinds of what a name says.
const (
	nothing  = iota
	aTerm    // at is its number
	declared // at is the place of its declaration
)

// meaning is what a name says.
type meaning struct{ kind, at int }

// search is a name that is looked for, the places of the declarations of each name, and what was found.
type search struct {
	name   string
	places map[string][]int
	found  meaning
}

// ends looks for the name in a scope, and tells whether nothing is to be looked for any more.
func (s *search) ends(x scope) bool {
	if id, is := x.terms[s.name]; is {
		s.found = meaning{aTerm, id}
		return true
	}
	if x.body {
		s.found = s.lastAhead(x.ahead)
	}
	return x.body
}

// lastAhead is what the last one of the first n declarations says that has the name.
func (s *search) lastAhead(n int) meaning {
	l := s.places[s.name]
	i, _ := slices.BinarySearch(l, n)
	if i == 0 {
		return meaning{}
	}
	return meaning{declared, l[i-1]}
}

// fromEnd hands over scope by scope, from the last one on, until one ends it.
func fromEnd(l []scope, ends func(x scope) bool) {
	for i := len(l) - 1; i >= 0; i-- {
		if ends(l[i]) {
			return
		}
	}
}

// placesOf is where the declarations of each name stand, in order.
func placesOf(l []api.Decl) map[string][]int {
	places := map[string][]int{}
	for i, d := range l {
		places[d.Name] = append(places[d.Name], i)
	}
	return places
}
