// Package serial is layer 1: see shared/doc/01-serial.md.
package serial

import (
	"cmp"
	"slices"
)

// Ahead is by how much a is ahead of b.
func Ahead(a, b uint16) int { return int(int16(a - b)) }

// Ahead32 is by how much a is ahead of b.
func Ahead32(a, b uint32) int64 { return int64(int32(a - b)) }

// Newer tells whether a is newer than b.
func Newer(a, b uint16) bool { return Ahead(a, b) > 0 }

// Max is the newer one, or a if neither is.
func Max(a, b uint16) uint16 {
	// Half the circle apart, neither is newer: so b must win outright.
	if Newer(b, a) {
		return b
	}
	return a
}

// Add is a number some ahead.
func Add(a uint16, n int) uint16 { return a + uint16(n) }

// Add32 is a number some ahead.
func Add32(a uint32, n int64) uint32 { return a + uint32(n) }

// firstRound is high enough that numbers older than the first one stay above 0.
const firstRound int64 = 1 << 32

const maxWide int64 = 1 << 62

// Wide tells numbers that don't go round.
type Wide struct {
	// A stored value is at least firstRound, so 0 means that there is none yet.
	highest int64
}

// Started tells whether a number was asked for.
func (w *Wide) Started() bool { return w.highest != 0 }

// Highest is the highest one that was told.
func (w *Wide) Highest() int64 { return w.highest }

// Peek is what a number is, without noting it.
func (w *Wide) Peek(n uint16) int64 { return min(max(w.extend(n), 0), maxWide) }

// Of is what a number is.
func (w *Wide) Of(n uint16) int64 {
	value := w.extend(n)
	if value > w.highest && value <= maxWide {
		w.highest = value
	}
	return min(max(value, 0), maxWide)
}

// extend is what a number is before it is held within 0 and maxWide.
func (w *Wide) extend(n uint16) int64 {
	if !w.Started() {
		return firstRound + int64(n)
	}
	return w.highest + int64(Ahead(n, uint16(w.highest)))
}

// Sort sorts numbers by how far they are ahead of the first one.
func Sort(ns []uint16) {
	if len(ns) == 0 {
		return
	}
	// Sorting moves the first number, so it is kept beforehand.
	first := ns[0]
	slices.SortStableFunc(ns, func(a, b uint16) int {
		return cmp.Compare(Ahead(a, first), Ahead(b, first))
	})
}

// Span is the least number, and how far the greatest one is ahead of it.
func Span(ns []uint16) (uint16, int) {
	if len(ns) == 0 {
		return 0, 0
	}
	low, high := 0, 0
	for _, n := range ns {
		key := Ahead(n, ns[0])
		low, high = min(low, key), max(high, key)
	}
	return Add(ns[0], low), high - low
}
