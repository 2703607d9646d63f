// Package mask is layer 2: see shared/doc/02-mask.md.
package mask

import (
	"iter"
	"math/bits"
	"strconv"
)

const (
	half = 64
	size = 2 * half
)

// Mask is bits.
type Mask struct{ Hi, Lo uint64 }

// Of is the mask of bits.
func Of(is ...int) Mask {
	var m Mask
	for _, i := range is {
		m = m.Or(Lay(i, 1, 1))
	}
	return m
}

// And is those of both.
func (m Mask) And(n Mask) Mask { return Mask{m.Hi & n.Hi, m.Lo & n.Lo} }

// Or is those of either.
func (m Mask) Or(n Mask) Mask { return Mask{m.Hi | n.Hi, m.Lo | n.Lo} }

// Xor is those of just one.
func (m Mask) Xor(n Mask) Mask { return Mask{m.Hi ^ n.Hi, m.Lo ^ n.Lo} }

// Has tells whether it has a bit.
func (m Mask) Has(i int) bool { return m.And(Of(i)) != Mask{} }

// With is the mask with a bit.
func (m Mask) With(i int) Mask { return m.Or(Of(i)) }

// Without is the mask without a bit.
func (m Mask) Without(i int) Mask { return m.Xor(m.And(Of(i))) }

// Count is how many there are.
func (m Mask) Count() int { return bits.OnesCount64(m.Hi) + bits.OnesCount64(m.Lo) }

// First is the first one, or -1.
func (m Mask) First() int {
	if m == (Mask{}) {
		return -1
	}
	if m.Hi != 0 {
		return bits.LeadingZeros64(m.Hi)
	}
	return half + bits.LeadingZeros64(m.Lo)
}

// Last is the last one, or -1.
func (m Mask) Last() int {
	if m == (Mask{}) {
		return -1
	}
	if m.Lo != 0 {
		return size - 1 - bits.TrailingZeros64(m.Lo)
	}
	return half - 1 - bits.TrailingZeros64(m.Hi)
}

// Bits are its bits, rising.
func (m Mask) Bits() iter.Seq[int] {
	return func(yield func(int) bool) {
		// A copy is used up, so that the iterator can be used again.
		rest := m
		for rest != (Mask{}) {
			i := rest.First()
			if !yield(i) {
				return
			}
			rest = rest.Without(i)
		}
	}
}

// List is its bits as a list.
func (m Mask) List() []int {
	var list []int
	for i := range m.Bits() {
		list = append(list, i)
	}
	return list
}

// Down is each bit further on.
func (m Mask) Down(n int) Mask {
	if n < 0 {
		// The least int is its own negative, and as a uint it is right too.
		return m.up(uint(-n))
	}
	return m.down(uint(n))
}

// down needs no bounds on n: a shift by 64 or more leaves 0, and a difference
// below 0 wraps round to such a shift.
func (m Mask) down(n uint) Mask {
	return Mask{
		Hi: m.Hi >> n,
		Lo: m.Lo>>n | m.Hi<<(half-n) | m.Hi>>(n-half),
	}
}

// up needs no bounds on n, as down doesn't.
func (m Mask) up(n uint) Mask {
	return Mask{
		Hi: m.Hi<<n | m.Lo>>(half-n) | m.Lo<<(n-half),
		Lo: m.Lo << n,
	}
}

// Full is the first bits.
func Full(n int) Mask {
	all := Mask{^uint64(0), ^uint64(0)}
	return all.Down(clamp(n, size) - size)
}

// Cut is its bits ahead of a place.
func (m Mask) Cut(n int) Mask { return m.And(Full(n)) }

// Part is some of its bits as a number.
func (m Mask) Part(from, n int) uint64 { return m.Down(-from).Hi >> (half - clamp(n, half)) }

// Lay is the mask that has the bits of a number from a place on.
func Lay(from, n int, number uint64) Mask {
	return Mask{Hi: number << (half - clamp(n, half))}.Down(from)
}

// Text is its bits in words.
func (m Mask) Text() string {
	var text []byte
	for i := range m.Bits() {
		if len(text) > 0 {
			text = append(text, ',')
		}
		text = strconv.AppendInt(text, int64(i), 10)
	}
	return string(text)
}

func clamp(n, most int) int { return max(0, min(n, most)) }
