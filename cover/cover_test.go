package cover

import (
	"math/rand"
	"slices"
	"strconv"
	"testing"

	"conflux/api"
	"conflux/mask"
)

// bitsOf is the set bits of a mask, each asked for by itself.
func bitsOf(m mask.Mask) []int {
	var list []int
	for i := range 128 {
		word := m.Hi
		if i >= 64 {
			word = m.Lo
		}
		if word>>(63-i%64)&1 == 1 {
			list = append(list, i)
		}
	}
	return list
}

// numbersOf is the numbers of a base and bits, by their definition.
func numbersOf(base uint16, bits []int) []uint16 {
	var list []uint16
	for _, i := range bits {
		list = append(list, uint16((int(base)+i)%65536))
	}
	return list
}

// key is by how much a number is ahead of another one.
func key(n, from uint16) int {
	d := (int(n) - int(from) + 65536) % 65536
	if d >= 32768 {
		d -= 65536
	}
	return d
}

func twice(ns []uint16) bool {
	seen := map[uint16]int{}
	for _, n := range ns {
		seen[n]++
	}
	return len(seen) < len(ns)
}

// maskOf is the mask of how far numbers are ahead of a base.
func maskOf(base uint16, ns []uint16) mask.Mask {
	var m mask.Mask
	for _, n := range ns {
		if d := key(n, base); d < 64 {
			m.Hi |= 1 << (63 - d)
		} else {
			m.Lo |= 1 << (127 - d)
		}
	}
	return m
}

// modelFrom is From by the document, one error after the other.
func modelFrom(base uint16, ns []uint16) (mask.Mask, api.Errno) {
	if len(ns) == 0 {
		return mask.Mask{}, api.ErrNone
	}
	for _, n := range ns {
		if key(n, base) < 0 || key(n, base) >= 109 {
			return mask.Mask{}, api.ErrSpan
		}
	}
	if twice(ns) {
		return mask.Mask{}, api.ErrTwice
	}
	return maskOf(base, ns), api.OK
}

// modelOf is Of by the document: the span is that of the keys of layer 1's Span.
func modelOf(ns []uint16) (uint16, mask.Mask, api.Errno) {
	if len(ns) == 0 {
		return 0, mask.Mask{}, api.ErrNone
	}
	compare := func(a, b uint16) int { return key(a, ns[0]) - key(b, ns[0]) }
	least, greatest := slices.MinFunc(ns, compare), slices.MaxFunc(ns, compare)
	if compare(greatest, least) >= 109 {
		return 0, mask.Mask{}, api.ErrSpan
	}
	if twice(ns) {
		return 0, mask.Mask{}, api.ErrTwice
	}
	return least, maskOf(least, ns), api.OK
}

// checkNumbers holds what is made of numbers against the document.
func checkNumbers(t *testing.T, base uint16, ns []uint16) {
	t.Helper()
	before := slices.Clone(ns)
	m, e := From(base, ns)
	if want, wantE := modelFrom(base, ns); m != want || e != wantE {
		t.Fatalf("From(%d, %v): %s %d, want %s %d", base, ns, m.Text(), e, want.Text(), wantE)
	}
	least, m, e := Of(ns)
	if wantLeast, want, wantE := modelOf(ns); least != wantLeast || m != want || e != wantE {
		t.Fatalf("Of(%v): %d %s %d, want %d %s %d", ns, least, m.Text(), e, wantLeast, want.Text(), wantE)
	}
	if !slices.Equal(ns, before) {
		t.Fatalf("%v became %v", before, ns)
	}
}

func someMasks() []mask.Mask {
	all := ^uint64(0)
	ms := []mask.Mask{{}, {Hi: all, Lo: all}, {Hi: all}, {Lo: all}, {Hi: 0xA000000000000000}, {Hi: 1, Lo: 1 << 63}, {Hi: 1 << 63, Lo: 1}}
	for i := range 128 {
		ms = append(ms, mask.Of(i))
	}
	random := rand.New(rand.NewSource(1))
	for range 40 {
		ms = append(ms, mask.Mask{Hi: random.Uint64(), Lo: random.Uint64()})
		ms = append(ms, mask.Mask{Hi: random.Uint64() & random.Uint64() & random.Uint64(), Lo: random.Uint64() & random.Uint64() & random.Uint64()})
	}
	return ms
}

func someBases() []uint16 {
	return []uint16{0, 1, 5, 108, 32767, 32768, 40000, 65408, 65409, 65426, 65427, 65428, 65472, 65534, 65535}
}

func TestExample(t *testing.T) {
	base, m, e := Of([]uint16{65535, 1})
	if base != 65535 || m != mask.Of(0, 2) || e != api.OK {
		t.Errorf("%d %s %d", base, m.Text(), e)
	}
}

// P11.1: Seqs, Each and Repair, for all bits.
func TestNumbersOfMasks(t *testing.T) {
	for _, m := range someMasks() {
		for _, base := range someBases() {
			bits := bitsOf(m)
			want := numbersOf(base, bits)
			if got := Seqs(base, m); !slices.Equal(got, want) {
				t.Fatalf("Seqs(%d, %s) = %v, want %v", base, m.Text(), got, want)
			}
			r := api.Repair{Head: [8]byte{1, 2}, Base: base, Hi: m.Hi, Lo: m.Lo, Body: []byte{3}}
			if got := Repair(r); !slices.Equal(got, want) {
				t.Fatalf("Repair(%d, %s) = %v, want %v", base, m.Text(), got, want)
			}
			pairs := Each(base, m)
			// An iterator can be used more than once.
			for range 2 {
				var is []int
				var ns []uint16
				for i, n := range pairs {
					is, ns = append(is, i), append(ns, n)
				}
				if !slices.Equal(is, bits) || !slices.Equal(ns, want) {
					t.Fatalf("Each(%d, %s): %v %v", base, m.Text(), is, ns)
				}
			}
		}
	}
}

func TestNumbersThatWrapRound(t *testing.T) {
	if got := Seqs(65535, mask.Of(0, 1, 127)); !slices.Equal(got, []uint16{65535, 0, 126}) {
		t.Errorf("Seqs: %v", got)
	}
	if got := Repair(api.Repair{Base: 65500, Hi: 1 << 63, Lo: 1}); !slices.Equal(got, []uint16{65500, 91}) {
		t.Errorf("Repair: %v", got)
	}
}

// Each calls its yield no more once that has returned false.
func TestEachStops(t *testing.T) {
	m := mask.Of(0, 3, 63, 64, 127)
	for most := 1; most <= 5; most++ {
		calls := 0
		Each(65535, m)(func(int, uint16) bool {
			calls++
			return calls < most
		})
		if calls != most {
			t.Errorf("%d calls instead of %d", calls, most)
		}
	}
	for range Each(7, mask.Mask{}) {
		t.Error("a pair of the empty mask")
	}
}

func TestOf(t *testing.T) {
	for _, c := range []struct {
		ns   []uint16
		base uint16
		text string
		e    api.Errno
	}{
		{nil, 0, "", api.ErrNone},
		{[]uint16{}, 0, "", api.ErrNone},
		{[]uint16{0}, 0, "0", api.OK},
		{[]uint16{65535}, 65535, "0", api.OK},
		{[]uint16{0, 65535}, 65535, "0,1", api.OK},
		{[]uint16{3, 1, 2}, 1, "0,1,2", api.OK},
		{[]uint16{50, 65500, 0, 10}, 65500, "0,36,46,86", api.OK},
		{[]uint16{32767, 32768}, 32767, "0,1", api.OK},
		{[]uint16{32768, 32767}, 32767, "0,1", api.OK},
		{[]uint16{108, 0}, 0, "0,108", api.OK},
		{[]uint16{109, 0}, 0, "", api.ErrSpan},
		{[]uint16{65535, 107}, 65535, "0,108", api.OK},
		{[]uint16{65535, 108}, 0, "", api.ErrSpan},
		{[]uint16{54, 0, 108}, 0, "0,54,108", api.OK},
		{[]uint16{54, 0, 109}, 0, "", api.ErrSpan},
		{[]uint16{0, 32767}, 0, "", api.ErrSpan},
		{[]uint16{0, 32768}, 0, "", api.ErrSpan},
		{[]uint16{32768, 0}, 0, "", api.ErrSpan},
		{[]uint16{0, 32767, 32768}, 0, "", api.ErrSpan}, // 65535 from one another
		{[]uint16{0, 32760, 32770}, 0, "", api.ErrSpan},
		{[]uint16{7, 7}, 0, "", api.ErrTwice},
		{[]uint16{7, 8, 9, 8}, 0, "", api.ErrTwice},
		{[]uint16{0, 108, 108}, 0, "", api.ErrTwice},
		{[]uint16{0, 0, 109}, 0, "", api.ErrSpan},
		{[]uint16{109, 109, 0}, 0, "", api.ErrSpan},
	} {
		base, m, e := Of(c.ns)
		if base != c.base || m.Text() != c.text || e != c.e {
			t.Errorf("Of(%v): %d %s %d", c.ns, base, m.Text(), e)
		}
		checkNumbers(t, c.base, c.ns)
	}
}

func TestFrom(t *testing.T) {
	for _, c := range []struct {
		base uint16
		ns   []uint16
		text string
		e    api.Errno
	}{
		{5, nil, "", api.ErrNone},
		{5, []uint16{}, "", api.ErrNone},
		{5, []uint16{5}, "0", api.OK},
		{5, []uint16{6}, "1", api.OK},
		{5, []uint16{4}, "", api.ErrSpan},
		{5, []uint16{113}, "108", api.OK},
		{5, []uint16{114}, "", api.ErrSpan},
		{5, []uint16{32772}, "", api.ErrSpan},
		{5, []uint16{32773}, "", api.ErrSpan},
		{65535, []uint16{0, 65535, 107}, "0,1,108", api.OK},
		{65535, []uint16{0, 65535, 108}, "", api.ErrSpan},
		{0, []uint16{65535}, "", api.ErrSpan},
		{5, []uint16{9, 6}, "1,4", api.OK},
		{5, []uint16{9, 6, 9}, "", api.ErrTwice},
		{5, []uint16{9, 9, 4}, "", api.ErrSpan},
		{5, []uint16{9, 9, 114}, "", api.ErrSpan},
	} {
		m, e := From(c.base, c.ns)
		if m.Text() != c.text || e != c.e {
			t.Errorf("From(%d, %v): %s %d", c.base, c.ns, m.Text(), e)
		}
		checkNumbers(t, c.base, c.ns)
	}
}

// P11.1: each distance of two numbers.
func TestTwoNumbers(t *testing.T) {
	for _, a := range someBases() {
		for b := range 1 << 16 {
			checkNumbers(t, a, []uint16{uint16(b)})
			checkNumbers(t, a, []uint16{a, uint16(b)})
			checkNumbers(t, a, []uint16{uint16(b), a})
		}
	}
}

// P11.1: few or many numbers, near one another or not, in any order.
func TestAnyNumbers(t *testing.T) {
	random := rand.New(rand.NewSource(2))
	spans := []int{1, 3, 50, 108, 109, 110, 111, 200, 40000, 65536}
	for range 20000 {
		base, span := uint16(random.Uint32()), spans[random.Intn(len(spans))]
		var ns []uint16
		for range random.Intn(1 + random.Intn(20)) {
			ns = append(ns, base+uint16(random.Intn(span)))
		}
		// Both ends, so that the span is often exactly that.
		if random.Intn(2) == 0 {
			ns = append(ns, base, base+uint16(span-1))
		}
		random.Shuffle(len(ns), func(i, j int) { ns[i], ns[j] = ns[j], ns[i] })
		checkNumbers(t, base+uint16(random.Intn(3)-1), ns)
	}
}

func TestManyNumbers(t *testing.T) {
	all := numbersOf(65500, bitsOf(mask.Full(109)))
	if base, m, e := Of(all); base != 65500 || m != mask.Full(109) || e != api.OK {
		t.Errorf("109 numbers: %d %s %d", base, m.Text(), e)
	}
	more := slices.Repeat(all, 1000)
	if _, _, e := Of(more); e != api.ErrTwice {
		t.Errorf("many times: %d", e)
	}
	if _, _, e := Of(append(more, 73)); e != api.ErrSpan {
		t.Errorf("many times, and one number too far: %d", e)
	}
}

// P11.2: the numbers of a mask come back, in any order.
func TestNumbersComeBack(t *testing.T) {
	random := rand.New(rand.NewSource(3))
	for _, m := range someMasks() {
		bits := bitsOf(m)
		if len(bits) == 0 || bits[len(bits)-1]-bits[0] >= 109 {
			continue
		}
		for _, base := range someBases() {
			want := Seqs(base, m)
			shuffled := slices.Clone(want)
			random.Shuffle(len(shuffled), func(i, j int) { shuffled[i], shuffled[j] = shuffled[j], shuffled[i] })
			for _, ns := range [][]uint16{want, shuffled} {
				least, again, e := Of(ns)
				if e != api.OK || least != want[0] || !slices.Equal(Seqs(least, again), want) {
					t.Fatalf("Of(%v): %d %s %d", ns, least, again.Text(), e)
				}
			}
			if again, e := From(base, want); bits[len(bits)-1] < 109 && (e != api.OK || again != m) {
				t.Fatalf("From(%d, %v): %s %d", base, want, again.Text(), e)
			}
		}
	}
}

func TestNeeds(t *testing.T) {
	random := rand.New(rand.NewSource(4))
	if n := Needs(mask.Mask{}); n != 0 {
		t.Errorf("the empty mask: %d", n)
	}
	for last := range 128 {
		want := 128
		for _, size := range []int{109, 48, 46, 16, 15} {
			if size > last {
				want = size
			}
		}
		for range 20 {
			m := mask.Mask{Hi: random.Uint64(), Lo: random.Uint64()}.Cut(random.Intn(last + 1)).With(last)
			if n := Needs(m); n != want {
				t.Errorf("Needs(%s) = %d, want %d", m.Text(), n, want)
			}
		}
	}
}

// P11.1: every number, within the mask and around it.
func TestHas(t *testing.T) {
	for _, m := range someMasks() {
		for _, base := range []uint16{0, 5, 32768, 65500} {
			ns := map[uint16]bool{}
			for _, n := range numbersOf(base, bitsOf(m)) {
				ns[n] = true
			}
			for n := range 1 << 16 {
				if got := Has(base, m, uint16(n)); got != ns[uint16(n)] {
					t.Fatalf("Has(%d, %s, %d) = %v", base, m.Text(), n, got)
				}
			}
		}
	}
}

func TestMissing(t *testing.T) {
	for _, m := range someMasks() {
		for _, base := range someBases() {
			for divisor := range 4 {
				known := func(n uint16) bool { return divisor > 0 && int(n)%divisor == 0 }
				var want []uint16
				for _, n := range numbersOf(base, bitsOf(m)) {
					if !known(n) {
						want = append(want, n)
					}
				}
				if got := Missing(base, m, known); !slices.Equal(got, want) {
					t.Fatalf("Missing(%d, %s), %d: %v, want %v", base, m.Text(), divisor, got, want)
				}
			}
		}
	}
}

// P1: without a function, no number is known.
func TestMissingWithoutFunction(t *testing.T) {
	if got := Missing(65535, mask.Of(0, 2), nil); !slices.Equal(got, []uint16{65535, 1}) {
		t.Errorf("%v", got)
	}
	if got := Missing(65535, mask.Mask{}, nil); len(got) != 0 {
		t.Errorf("the empty mask: %v", got)
	}
}

// What comes out is new memory each time.
func TestResultsAreNewMemory(t *testing.T) {
	m := mask.Of(0, 2, 5)
	for i, build := range []func() []uint16{
		func() []uint16 { return Seqs(5, m) },
		func() []uint16 { return Repair(api.Repair{Base: 5, Hi: m.Hi, Lo: m.Lo}) },
		func() []uint16 { return Missing(5, m, func(uint16) bool { return false }) },
	} {
		first, second := build(), build()
		clear(first[:cap(first)])
		if want := []uint16{5, 7, 10}; !slices.Equal(second, want) || !slices.Equal(build(), want) {
			t.Errorf("result %s shares memory: %v", strconv.Itoa(i), second)
		}
	}
}
