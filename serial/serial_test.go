package serial

import (
	"math"
	"math/big"
	"math/rand"
	"slices"
	"testing"
)

// bases are the numbers around which 16-bit arithmetic wraps or changes sign.
var bases = []uint16{0, 1, 2, 255, 256, 32766, 32767, 32768, 32769, 65534, 65535, 12345}

// P1.1: the definition of Ahead, for every distance.
func TestAheadIsTheDistanceInRange(t *testing.T) {
	for _, b := range bases {
		for i := range 1 << 16 {
			a := uint16(i)
			d := Ahead(a, b)
			if d < -32768 || d > 32767 || (int(b)+d-int(a))%65536 != 0 {
				t.Fatalf("Ahead(%d, %d) = %d", a, b, d)
			}
			if Newer(a, b) != (d > 0) {
				t.Fatalf("Newer(%d, %d) = %v, but Ahead is %d", a, b, Newer(a, b), d)
			}
		}
	}
}

func TestAheadExamples(t *testing.T) {
	for _, c := range []struct {
		a, b uint16
		want int
	}{
		{2, 65535, 3}, {65535, 2, -3}, {0, 0, 0}, {65535, 65535, 0},
		{32767, 0, 32767}, {32768, 0, -32768}, {0, 32768, -32768}, {32769, 0, -32767},
		{0, 32769, 32767}, {100, 65000, 636},
	} {
		if got := Ahead(c.a, c.b); got != c.want {
			t.Errorf("Ahead(%d, %d) = %d, want %d", c.a, c.b, got, c.want)
		}
	}
}

func TestAhead32(t *testing.T) {
	for _, c := range []struct {
		a, b uint32
		want int64
	}{
		{0, 0, 0}, {1, 0, 1}, {0, 1, -1}, {0, math.MaxUint32, 1}, {math.MaxUint32, 0, -1},
		{1<<31 - 1, 0, 1<<31 - 1}, {1 << 31, 0, -1 << 31}, {0, 1 << 31, -1 << 31}, {1<<31 + 1, 0, -1<<31 + 1},
		{65536, 0, 65536}, {32768, 0, 32768}, {5, 1<<32 - 70000, 70005},
	} {
		if got := Ahead32(c.a, c.b); got != c.want {
			t.Errorf("Ahead32(%d, %d) = %d, want %d", c.a, c.b, got, c.want)
		}
	}
	random := rand.New(rand.NewSource(1))
	for range 10000 {
		a, b := random.Uint32(), random.Uint32()
		d := Ahead32(a, b)
		if d < -1<<31 || d > 1<<31-1 || (int64(b)+d-int64(a))%(1<<32) != 0 {
			t.Fatalf("Ahead32(%d, %d) = %d", a, b, d)
		}
	}
}

// P1.2: the first half.
func TestAheadTheOtherWayRound(t *testing.T) {
	for _, a := range bases {
		for i := range 1 << 16 {
			b := uint16(i)
			d := Ahead(a, b)
			want := -d
			if d == -32768 {
				want = -32768
			}
			if got := Ahead(b, a); got != want {
				t.Fatalf("Ahead(%d, %d) = %d, but Ahead(%d, %d) = %d", b, a, got, a, b, d)
			}
		}
	}
}

// P1.2: the second half.
func TestAddIsAheadByThatMuch(t *testing.T) {
	for _, a := range bases {
		for n := -32768; n <= 32767; n++ {
			if d := Ahead(Add(a, n), a); d != n {
				t.Fatalf("Add(%d, %d) is ahead by %d", a, n, d)
			}
		}
	}
}

func TestNewerAndMax(t *testing.T) {
	for _, c := range []struct {
		a, b  uint16
		newer bool
		max   uint16
	}{
		{5, 5, false, 5}, {0, 65535, true, 0}, {65535, 0, false, 0}, {1, 2, false, 2}, {2, 1, true, 2},
		{32767, 0, true, 32767}, {0, 32767, false, 32767}, {32769, 0, false, 0}, {0, 32769, true, 0},
		// Half the circle apart, neither is newer.
		{0, 32768, false, 0}, {32768, 0, false, 32768}, {40000, 7232, false, 40000},
	} {
		if got := Newer(c.a, c.b); got != c.newer {
			t.Errorf("Newer(%d, %d) = %v", c.a, c.b, got)
		}
		if got := Max(c.a, c.b); got != c.max {
			t.Errorf("Max(%d, %d) = %d, want %d", c.a, c.b, got, c.max)
		}
	}
}

// sumModulo adds without any bound, to hold the results of Add and Add32 against.
func sumModulo(a, n int64, bits uint) uint64 {
	sum := new(big.Int).Add(big.NewInt(a), big.NewInt(n))
	modulus := new(big.Int).Lsh(big.NewInt(1), bits)
	return sum.Mod(sum, modulus).Uint64()
}

func TestAddTakesAnyNumber(t *testing.T) {
	amounts := []int64{0, 1, -1, 2, -2, 32767, 32768, -32768, -32769, 65535, 65536, 65537, -65535, -65536, -65537,
		math.MaxInt32, math.MinInt32, math.MaxUint32, 1 << 32, -1 << 32, 1<<32 + 5, math.MaxInt64, math.MaxInt64 - 1, math.MinInt64, math.MinInt64 + 1}
	for _, n := range amounts {
		for _, a := range bases {
			if got, want := Add(a, int(n)), uint16(sumModulo(int64(a), int64(int(n)), 16)); got != want {
				t.Errorf("Add(%d, %d) = %d, want %d", a, n, got, want)
			}
		}
		for _, a := range []uint32{0, 1, 65535, 65536, 1<<31 - 1, 1 << 31, math.MaxUint32} {
			if got, want := Add32(a, n), uint32(sumModulo(int64(a), n, 32)); got != want {
				t.Errorf("Add32(%d, %d) = %d, want %d", a, n, got, want)
			}
		}
	}
}

func TestNewWide(t *testing.T) {
	var w Wide
	if w.Started() || w.Highest() != 0 {
		t.Errorf("a new one: %v, %d", w.Started(), w.Highest())
	}
	for _, n := range bases {
		if got := w.Peek(n); got != 1<<32+int64(n) {
			t.Errorf("Peek(%d) = %d", n, got)
		}
		if w.Started() || w.Highest() != 0 {
			t.Fatalf("Peek(%d) stored something", n)
		}
		var first Wide
		if got := first.Of(n); got != 1<<32+int64(n) || !first.Started() || first.Highest() != got {
			t.Errorf("Of(%d) = %d, then %v, %d", n, got, first.Started(), first.Highest())
		}
	}
}

func TestWideGoesOn(t *testing.T) {
	var w Wide
	for i, c := range []struct {
		n             uint16
		want, highest int64
	}{
		{65535, 1<<32 + 65535, 1<<32 + 65535},
		{1, 1<<32 + 65537, 1<<32 + 65537},
		{65534, 1<<32 + 65534, 1<<32 + 65537},
		{1, 1<<32 + 65537, 1<<32 + 65537},
		{0, 1<<32 + 65536, 1<<32 + 65537},
		{32768, 1<<32 + 98304, 1<<32 + 98304},
		// Half the circle counts as older.
		{0, 1<<32 + 65536, 1<<32 + 98304},
		{65535, 1<<32 + 131071, 1<<32 + 131071},
	} {
		before := w.Highest()
		if got := w.Peek(c.n); got != c.want {
			t.Errorf("step %d: Peek(%d) = %d, want %d", i, c.n, got, c.want)
		}
		if w.Highest() != before {
			t.Errorf("step %d: Peek stored %d", i, w.Highest())
		}
		if got := w.Of(c.n); got != c.want {
			t.Errorf("step %d: Of(%d) = %d, want %d", i, c.n, got, c.want)
		}
		if !w.Started() || w.Highest() != c.highest {
			t.Errorf("step %d: %v, highest %d, want %d", i, w.Started(), w.Highest(), c.highest)
		}
	}
}

func TestWideBelowFirst(t *testing.T) {
	var w Wide
	w.Of(0)
	if got := w.Of(32768); got != 1<<32-32768 || w.Highest() != 1<<32 {
		t.Errorf("%d, highest %d", got, w.Highest())
	}
}

// No number of calls that a test can make reaches the limits, so the state is set.
func TestWideLimits(t *testing.T) {
	const top = 1 << 62
	for _, c := range []struct {
		highest        int64
		n              uint16
		want, highest2 int64
	}{
		{5, 4, 4, 5},
		{5, 0, 0, 5},
		{5, 65535, 0, 5},
		{5, 32773, 0, 5},
		{32767, 65535, 0, 32767},
		{32768, 0, 0, 32768},
		{32768, 65535, 65535, 65535},
		{top - 1, 65535, top - 1, top - 1},
		{top - 1, 0, top, top},
		{top - 1, 1, top, top - 1},
		{top - 1, 32766, top, top - 1},
		{top - 1, 65534, top - 2, top - 1},
		{top, 0, top, top},
		{top, 1, top, top},
		{top, 32767, top, top},
		{top, 32768, top - 32768, top},
	} {
		w := Wide{highest: c.highest}
		if got := w.Peek(c.n); got != c.want || w.Highest() != c.highest {
			t.Errorf("after %d: Peek(%d) = %d, want %d; highest %d", c.highest, c.n, got, c.want, w.Highest())
		}
		if got := w.Of(c.n); got != c.want || w.Highest() != c.highest2 {
			t.Errorf("after %d: Of(%d) = %d, want %d; highest %d, want %d", c.highest, c.n, got, c.want, w.Highest(), c.highest2)
		}
	}
}

// P1.3: a walk whose true positions are known.
func TestWideKeepsDistances(t *testing.T) {
	random := rand.New(rand.NewSource(2))
	for range 20 {
		var w Wide
		first := random.Int63n(1 << 16)
		at, highest := first, first
		start := w.Of(uint16(at))
		for range 5000 {
			at = highest - 32767 + random.Int63n(2*32767+1)
			highest = max(highest, at)
			if got := w.Of(uint16(at)); got-start != at-first {
				t.Fatalf("from %d to %d: the results differ by %d", first, at, got-start)
			}
		}
		if w.Highest()-start != highest-first {
			t.Fatalf("highest %d, want %d", w.Highest()-start, highest-first)
		}
	}
}

func TestWidesAreIndependent(t *testing.T) {
	var a Wide
	a.Of(10)
	b := a
	b.Of(20)
	if a.Highest() != 1<<32+10 || b.Highest() != 1<<32+20 {
		t.Errorf("%d, %d", a.Highest(), b.Highest())
	}
}

func TestSort(t *testing.T) {
	for _, c := range []struct{ ns, want []uint16 }{
		{nil, nil},
		{[]uint16{}, nil},
		{[]uint16{7}, []uint16{7}},
		{[]uint16{65535, 2, 65534}, []uint16{65534, 65535, 2}},
		{[]uint16{3, 1, 2, 1, 3}, []uint16{1, 1, 2, 3, 3}},
		{[]uint16{0, 32767, 32768, 65535, 1}, []uint16{32768, 65535, 0, 1, 32767}},
		{[]uint16{32768, 0, 65535, 1}, []uint16{0, 1, 32768, 65535}},
		// The order depends on which number is first.
		{[]uint16{10, 40000, 20000}, []uint16{40000, 10, 20000}},
		{[]uint16{20000, 40000, 10}, []uint16{10, 20000, 40000}},
	} {
		got := slices.Clone(c.ns)
		Sort(got)
		if !slices.Equal(got, c.want) {
			t.Errorf("Sort(%v) = %v, want %v", c.ns, got, c.want)
		}
	}
}

func TestSortLeavesTheRestAlone(t *testing.T) {
	all := []uint16{9, 3, 2, 1, 0}
	Sort(all[1:3])
	if !slices.Equal(all, []uint16{9, 2, 3, 1, 0}) {
		t.Errorf("%v", all)
	}
}

func TestSpan(t *testing.T) {
	for _, c := range []struct {
		ns  []uint16
		low uint16
		n   int
	}{
		{nil, 0, 0},
		{[]uint16{}, 0, 0},
		{[]uint16{7}, 7, 0},
		{[]uint16{7, 7}, 7, 0},
		{[]uint16{65535, 2, 65534}, 65534, 4},
		{[]uint16{5, 6, 9}, 5, 4},
		{[]uint16{9, 6, 5}, 5, 4},
		{[]uint16{0, 32768}, 32768, 32768},
		{[]uint16{0, 32767}, 0, 32767},
		{[]uint16{0, 32768, 32767}, 32768, 65535},
		{[]uint16{65535, 32767, 32766}, 32767, 65535},
	} {
		before := slices.Clone(c.ns)
		low, n := Span(c.ns)
		if low != c.low || n != c.n {
			t.Errorf("Span(%v) = %d, %d, want %d, %d", c.ns, low, n, c.low, c.n)
		}
		if !slices.Equal(c.ns, before) {
			t.Errorf("Span changed %v to %v", before, c.ns)
		}
	}
}

func TestSortAndSpanAtRandom(t *testing.T) {
	random := rand.New(rand.NewSource(3))
	for range 500 {
		ns := make([]uint16, 1+random.Intn(60))
		for i := range ns {
			ns[i] = uint16(random.Intn(1 << 16))
		}
		first := ns[0]
		count := map[uint16]int{}
		for _, n := range ns {
			count[n]++
		}
		low, span := Span(ns)
		Sort(ns)
		for i, n := range ns {
			count[n]--
			if i > 0 && Ahead(ns[i-1], first) > Ahead(n, first) {
				t.Fatalf("not sorted by %d: %v", first, ns)
			}
		}
		for n, c := range count {
			if c != 0 {
				t.Fatalf("%d is there %d times too few", n, c)
			}
		}
		last := ns[len(ns)-1]
		if low != ns[0] || span != Ahead(last, first)-Ahead(ns[0], first) {
			t.Fatalf("Span = %d, %d of %v", low, span, ns)
		}
	}
}
