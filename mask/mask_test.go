package mask

import (
	"math"
	"math/rand"
	"slices"
	"strconv"
	"strings"
	"testing"
)

// plain is a mask as a list of truths, which the results are held against.
type plain [128]bool

func plainOf(m Mask) plain {
	var p plain
	for i := range p {
		word := m.Hi
		if i >= 64 {
			word = m.Lo
		}
		p[i] = word>>(63-i%64)&1 == 1
	}
	return p
}

func (p plain) has(i int) bool { return i >= 0 && i < 128 && p[i] }

// made is the mask whose bits are those for which has is true.
func made(has func(int) bool) Mask {
	var m Mask
	for i := range 128 {
		if !has(i) {
			continue
		}
		if i < 64 {
			m.Hi |= 1 << (63 - i)
		} else {
			m.Lo |= 1 << (127 - i)
		}
	}
	return m
}

func someMasks() []Mask {
	all := ^uint64(0)
	ms := []Mask{{}, {all, all}, {all, 0}, {0, all}, {1, 0}, {0, 1}, {1 << 63, 0}, {0, 1 << 63},
		{1, 1 << 63}, {0xA000000000000000, 1}, {0x5555555555555555, 0xAAAAAAAAAAAAAAAA}}
	random := rand.New(rand.NewSource(1))
	for range 20 {
		ms = append(ms, Mask{random.Uint64(), random.Uint64()})
		ms = append(ms, Mask{random.Uint64() & random.Uint64() & random.Uint64(), random.Uint64() & random.Uint64() & random.Uint64()})
	}
	return ms
}

// someNumbers are all that matter around a mask, and those at which sums overflow.
func someNumbers() []int {
	ns := []int{math.MinInt, math.MinInt + 1, math.MinInt + 63, math.MinInt + 64, math.MinInt + 127, math.MinInt + 128,
		math.MaxInt, math.MaxInt - 1, math.MaxInt - 63, math.MaxInt - 64, math.MaxInt - 127, math.MaxInt - 128,
		math.MinInt32, math.MaxInt32, 1 << 40, -1 << 40, 1 << 62, -1 << 62, 1000, -1000, 256, -256}
	for n := -200; n <= 200; n++ {
		ns = append(ns, n)
	}
	return ns
}

func TestExamples(t *testing.T) {
	m := Of(0, 2)
	if m.Hi != 0xA000000000000000 || m.Lo != 0 || m.Text() != "0,2" || m.Part(0, 3) != 5 {
		t.Errorf("%x %x %q %d", m.Hi, m.Lo, m.Text(), m.Part(0, 3))
	}
}

func TestOf(t *testing.T) {
	for _, c := range []struct {
		is   []int
		want Mask
	}{
		{nil, Mask{}},
		{[]int{}, Mask{}},
		{[]int{0}, Mask{1 << 63, 0}},
		{[]int{63}, Mask{1, 0}},
		{[]int{64}, Mask{0, 1 << 63}},
		{[]int{127}, Mask{0, 1}},
		{[]int{5, 5, 5}, Mask{1 << 58, 0}},
		{[]int{127, 0, 64, 63}, Mask{1<<63 | 1, 1<<63 | 1}},
		{[]int{-1, 128, -128, 192, 256, math.MinInt, math.MaxInt}, Mask{}},
		{[]int{-1, 1, 128}, Mask{1 << 62, 0}},
	} {
		before := slices.Clone(c.is)
		if got := Of(c.is...); got != c.want {
			t.Errorf("Of(%v) = %x", c.is, got)
		}
		if !slices.Equal(c.is, before) {
			t.Errorf("Of changed %v to %v", before, c.is)
		}
	}
}

func TestSingleBits(t *testing.T) {
	for _, m := range someMasks() {
		p := plainOf(m)
		for _, n := range someNumbers() {
			if got := m.Has(n); got != p.has(n) {
				t.Fatalf("%x.Has(%d) = %v", m, n, got)
			}
			if got, want := m.With(n), made(func(i int) bool { return p[i] || i == n }); got != want {
				t.Fatalf("%x.With(%d) = %x, want %x", m, n, got, want)
			}
			if got, want := m.Without(n), made(func(i int) bool { return p[i] && i != n }); got != want {
				t.Fatalf("%x.Without(%d) = %x, want %x", m, n, got, want)
			}
		}
	}
}

func TestSetBits(t *testing.T) {
	for _, m := range someMasks() {
		var list []int
		var words []string
		for i, set := range plainOf(m) {
			if set {
				list = append(list, i)
				words = append(words, strconv.Itoa(i))
			}
		}
		first, last := -1, -1
		if len(list) > 0 {
			first, last = list[0], list[len(list)-1]
		}
		if m.Count() != len(list) || m.First() != first || m.Last() != last {
			t.Errorf("%x: %d bits from %d to %d", m, m.Count(), m.First(), m.Last())
		}
		if got := m.List(); !slices.Equal(got, list) {
			t.Errorf("%x.List() = %v", m, got)
		}
		if got := m.Text(); got != strings.Join(words, ",") {
			t.Errorf("%x.Text() = %q", m, got)
		}
		if got := slices.Collect(m.Bits()); !slices.Equal(got, list) {
			t.Errorf("%x.Bits() = %v", m, got)
		}
		if got := Of(list...); got != m {
			t.Errorf("Of(%v) = %x, want %x", list, got, m)
		}
	}
}

func TestBitsStopAndStartAgain(t *testing.T) {
	bits := Of(3, 64, 127).Bits()
	for range 2 {
		var got []int
		for i := range bits {
			got = append(got, i)
			if i == 64 {
				break
			}
		}
		if !slices.Equal(got, []int{3, 64}) {
			t.Errorf("up to 64: %v", got)
		}
	}
	if got := slices.Collect(bits); !slices.Equal(got, []int{3, 64, 127}) {
		t.Errorf("all of them: %v", got)
	}
	calls := 0
	bits(func(int) bool { calls++; return false })
	if calls != 1 {
		t.Errorf("%d calls after the caller stopped", calls)
	}
	for i := range (Mask{}).Bits() {
		t.Errorf("an empty mask has %d", i)
	}
}

func TestListIsNewMemory(t *testing.T) {
	m := Of(1, 2, 3)
	a, b := m.List(), m.List()
	a[0] = 9
	_ = append(a[:1], 8, 7)
	if !slices.Equal(b, []int{1, 2, 3}) || !slices.Equal(m.List(), []int{1, 2, 3}) {
		t.Errorf("%v, %v", b, m.List())
	}
}

func TestTwoMasks(t *testing.T) {
	for _, m := range someMasks() {
		p := plainOf(m)
		for _, n := range someMasks() {
			q := plainOf(n)
			if got := m.And(n); got != made(func(i int) bool { return p[i] && q[i] }) {
				t.Fatalf("%x.And(%x) = %x", m, n, got)
			}
			if got := m.Or(n); got != made(func(i int) bool { return p[i] || q[i] }) {
				t.Fatalf("%x.Or(%x) = %x", m, n, got)
			}
			if got := m.Xor(n); got != made(func(i int) bool { return p[i] != q[i] }) {
				t.Fatalf("%x.Xor(%x) = %x", m, n, got)
			}
		}
	}
}

func TestDownAndCut(t *testing.T) {
	for _, m := range someMasks() {
		p := plainOf(m)
		for _, n := range someNumbers() {
			if got, want := m.Down(n), made(func(i int) bool { return within(n) && p.has(i-n) }); got != want {
				t.Fatalf("%x.Down(%d) = %x, want %x", m, n, got, want)
			}
			if got, want := m.Cut(n), made(func(i int) bool { return p[i] && i < n }); got != want {
				t.Fatalf("%x.Cut(%d) = %x, want %x", m, n, got, want)
			}
		}
	}
}

// within tells whether sums with n and bits don't overflow; beyond, every sum is outside a mask.
func within(n int) bool { return n > -1<<20 && n < 1<<20 }

func TestFull(t *testing.T) {
	for _, n := range someNumbers() {
		if got, want := Full(n), made(func(i int) bool { return i < n }); got != want {
			t.Errorf("Full(%d) = %x, want %x", n, got, want)
		}
	}
	if Full(0) != (Mask{}) || Full(-1) != (Mask{}) || Full(129) != Full(128) || Full(128).Count() != 128 {
		t.Error("0, -1, 128, 129")
	}
}

// somePlaces and someSizes are where Part and Lay change.
var (
	somePlaces = []int{math.MinInt, math.MinInt + 64, -1000, -129, -128, -127, -65, -64, -63, -2, -1, 0, 1, 2, 31, 62, 63, 64, 65, 66,
		100, 126, 127, 128, 129, 191, 192, 1000, math.MaxInt - 64, math.MaxInt - 1, math.MaxInt}
	someSizes = []int{math.MinInt, -65, -64, -1, 0, 1, 2, 3, 7, 8, 31, 32, 33, 62, 63, 64, 65, 128, 1000, math.MaxInt}
)

func limited(n int) int { return min(max(n, 0), 64) }

func plainPart(p plain, from, n int) uint64 {
	number := uint64(0)
	for i := range limited(n) {
		number <<= 1
		if within(from) && p.has(from+i) {
			number |= 1
		}
	}
	return number
}

func plainLay(from, n int, number uint64) Mask {
	size := limited(n)
	return made(func(i int) bool {
		if !within(from) || i < from || i >= from+size {
			return false
		}
		return number>>(size-1-(i-from))&1 == 1
	})
}

func TestPart(t *testing.T) {
	for _, m := range someMasks() {
		p := plainOf(m)
		for _, from := range somePlaces {
			for _, n := range someSizes {
				if got, want := m.Part(from, n), plainPart(p, from, n); got != want {
					t.Fatalf("%x.Part(%d, %d) = %x, want %x", m, from, n, got, want)
				}
			}
		}
	}
}

func TestLay(t *testing.T) {
	for _, m := range someMasks() {
		for _, from := range somePlaces {
			for _, n := range someSizes {
				if got, want := Lay(from, n, m.Hi), plainLay(from, n, m.Hi); got != want {
					t.Fatalf("Lay(%d, %d, %x) = %x, want %x", from, n, m.Hi, got, want)
				}
			}
		}
	}
}

func TestPartAndLayByHand(t *testing.T) {
	m := Of(0, 2, 127)
	if m.Part(-1, 3) != 2 || m.Part(126, 4) != 4 || m.Part(127, 1) != 1 || m.Part(128, 64) != 0 || m.Part(0, 0) != 0 || m.Part(0, -5) != 0 {
		t.Error("Part")
	}
	if m.Part(0, 64) != m.Hi || m.Part(64, 64) != m.Lo || m.Part(64, 65) != m.Lo {
		t.Error("Part of a whole word")
	}
	if Lay(62, 4, 0b1011).Text() != "62,64,65" || Lay(126, 4, 0b1111).Text() != "126,127" || Lay(-2, 4, 0b1101).Text() != "1" {
		t.Error("Lay")
	}
	// Bits of the number above the low n don't count.
	if Lay(0, 2, 0xFF).Text() != "0,1" || Lay(0, 0, 1) != (Mask{}) || Lay(0, -1, 1) != (Mask{}) || Lay(64, 100, 5) != (Mask{0, 5}) {
		t.Error("Lay of fewer or more bits")
	}
}

// P2.2
func TestPartOfLay(t *testing.T) {
	random := rand.New(rand.NewSource(2))
	for _, from := range somePlaces {
		for _, n := range someSizes {
			for range 20 {
				number := random.Uint64()
				want := uint64(0)
				for i := range limited(n) {
					if place := from + i; within(from) && place >= 0 && place < 128 {
						want |= number & (1 << (limited(n) - 1 - i))
					}
				}
				if got := Lay(from, n, number).Part(from, n); got != want {
					t.Fatalf("from %d, %d bits of %x: %x, want %x", from, n, number, got, want)
				}
			}
		}
	}
}

func TestMasksAreValues(t *testing.T) {
	m := Of(1, 100)
	m.With(5)
	m.Without(1)
	m.Down(3)
	m.Cut(2)
	for range m.Bits() {
	}
	if m != Of(100, 1) || m == Of(1) {
		t.Errorf("%s", m.Text())
	}
}
