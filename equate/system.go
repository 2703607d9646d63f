package equate

import "iter"

// system is equations of elements, each of which has a number.
type system[T comparable] struct {
	elements []T       // by number
	known    []bool    // by number
	numbers  map[T]int // of those elements that can be keys
	eqs      [][]int   // of each equation the numbers of its elements, each once
}

func newSystem[T comparable](known []T, eqs [][]T) *system[T] {
	s := &system[T]{numbers: map[T]int{}}
	for _, n := range s.distinct(known) {
		s.known[n] = true
	}
	for _, eq := range eqs {
		s.eqs = append(s.eqs, s.distinct(eq))
	}
	return s
}

// distinct is the numbers of elements, each once, in the order of the elements.
func (s *system[T]) distinct(xs []T) []int {
	var list []int
	seen := map[int]struct{}{}
	for _, x := range xs {
		n := s.number(x)
		if _, again := seen[n]; !again {
			seen[n] = struct{}{}
			list = append(list, n)
		}
	}
	return list
}

// number is an element's number: the same one wherever it occurs.
func (s *system[T]) number(x T) (n int) {
	defer func() {
		// An interface is of a comparable type even if it holds a slice, say, which
		// can't be a key. Nothing is equal to such an element, as to a NaN: each
		// occurrence is an element of its own.
		if recover() != nil {
			n = s.add(x)
		}
	}()
	n, there := s.numbers[x]
	if !there {
		n = s.add(x)
		s.numbers[x] = n
	}
	return n
}

func (s *system[T]) add(x T) int {
	s.elements = append(s.elements, x)
	s.known = append(s.known, false)
	return len(s.elements) - 1
}

// peel recovers elements, each with the index of its equation, and marks them in
// known, a list by number.
func (s *system[T]) peel(known []bool) iter.Seq2[int, int] {
	return func(yield func(int, int) bool) {
		for again := true; again; {
			again = false
			for i, eq := range s.eqs {
				n, ok := onlyUnknown(eq, known)
				if !ok {
					continue
				}
				known[n] = true
				again = true
				if !yield(n, i) {
					return
				}
			}
		}
	}
}

// onlyUnknown is the number in an equation that isn't known, if it is the only one.
func onlyUnknown(eq []int, known []bool) (int, bool) {
	only, found := 0, false
	for _, n := range eq {
		if known[n] {
			continue
		}
		if found {
			return 0, false
		}
		only, found = n, true
	}
	return only, found
}

// peelAll marks all that can be recovered as known.
func (s *system[T]) peelAll() {
	for range s.peel(s.known) {
	}
}

// unknown is those elements of some numbers that aren't known.
func (s *system[T]) unknown(numbers []int) []T {
	var list []T
	for _, n := range numbers {
		if !s.known[n] {
			list = append(list, s.elements[n])
		}
	}
	return list
}
