package stripe

import (
	"bytes"
	"iter"
	"math"
	"math/rand"
	"slices"
	"testing"
)

// at is the byte of a row, or 0 where it has none.
func at(b []byte, i int) byte {
	if i < len(b) {
		return b[i]
	}
	return 0
}

// model is the XOR by its definition.
func model(parts ...[]byte) []byte {
	longest := 0
	for _, p := range parts {
		longest = max(longest, len(p))
	}
	sum := make([]byte, longest)
	for i := range sum {
		for _, p := range parts {
			sum[i] ^= at(p, i)
		}
	}
	return sum
}

// rows are lists of rows: all short ones of bytes that tell bits apart, and random ones.
func rows() [][][]byte {
	short := [][]byte{nil, {}, {0}, {1}, {255}, {1, 2}, {0, 0}, {0, 8}, {3, 0}, {128, 64, 32}}
	lists := [][][]byte{nil, {}}
	for _, a := range short {
		lists = append(lists, [][]byte{a})
		for _, b := range short {
			lists = append(lists, [][]byte{a, b}, [][]byte{a, b, a}, [][]byte{b, {7, 7, 7, 7}, a, b})
		}
	}
	random := rand.New(rand.NewSource(1))
	for range 100 {
		var list [][]byte
		for range random.Intn(9) {
			row := make([]byte, random.Intn(40))
			random.Read(row)
			list = append(list, row)
		}
		lists = append(lists, list)
	}
	return lists
}

func TestExample(t *testing.T) {
	if got := Xor([]byte{1, 2}, []byte{3}); !bytes.Equal(got, []byte{2, 2}) {
		t.Errorf("%x", got)
	}
}

// P4.1: all ways to the XOR of the same rows, against its definition.
func TestXorOfRows(t *testing.T) {
	for _, list := range rows() {
		want := model(list...)
		if got := All(list...); !bytes.Equal(got, want) {
			t.Fatalf("All(%x) = %x, want %x", list, got, want)
		}
		if got := Fold(slices.Values(list)); !bytes.Equal(got, want) {
			t.Fatalf("Fold(%x) = %x, want %x", list, got, want)
		}
		var s Sum
		for i, row := range list {
			s.Add(row)
			part := model(list[:i+1]...)
			if !bytes.Equal(s.Bytes(), part) || s.Count() != i+1 || s.Longest() != len(part) {
				t.Fatalf("Sum of %x: %x %d %d", list[:i+1], s.Bytes(), s.Count(), s.Longest())
			}
		}
		if len(list) == 2 {
			if got := Xor(list[0], list[1]); !bytes.Equal(got, want) {
				t.Fatalf("Xor(%x) = %x, want %x", list, got, want)
			}
		}
	}
}

func TestNothingToAdd(t *testing.T) {
	var s Sum
	if len(All()) != 0 || len(Fold(nil)) != 0 || len(Xor(nil, nil)) != 0 || len(s.Bytes()) != 0 || s.Count() != 0 || s.Longest() != 0 {
		t.Error("something comes of nothing")
	}
	s.Add(nil)
	s.Add([]byte{})
	if len(s.Bytes()) != 0 || s.Count() != 2 || s.Longest() != 0 {
		t.Errorf("%x %d %d", s.Bytes(), s.Count(), s.Longest())
	}
}

// A longer row that comes later finds zeros, not what a buffer held before.
func TestRowsThatGrow(t *testing.T) {
	var s Sum
	for n := range 300 {
		s.Add(bytes.Repeat([]byte{1}, n))
	}
	got := s.Bytes()
	for i, x := range got {
		if want := byte(299-i) & 1; x != want {
			t.Fatalf("byte %d is %d", i, x)
		}
	}
	if s.Count() != 300 || s.Longest() != 299 || len(got) != 299 {
		t.Errorf("%d %d %d", s.Count(), s.Longest(), len(got))
	}
}

// The iterator may pass the same memory each time, and is asked for all once.
func TestFoldOfOneBuffer(t *testing.T) {
	runs := 0
	var parts iter.Seq[[]byte] = func(yield func([]byte) bool) {
		runs++
		buffer := make([]byte, 2)
		for i := range 4 {
			buffer[0], buffer[1] = byte(1<<i), byte(i)
			if !yield(buffer[:1+i%2]) {
				t.Error("Fold stops early")
				return
			}
		}
	}
	if got := Fold(parts); !bytes.Equal(got, []byte{15, 1 ^ 3}) || runs != 1 {
		t.Errorf("%x, %d runs", got, runs)
	}
}

// P4.2: twice the same is none, but for zeros at the end.
func TestXorTwice(t *testing.T) {
	for _, list := range rows() {
		if len(list) < 2 {
			continue
		}
		a, b := list[0], list[1]
		again := Xor(Xor(a, b), b)
		if !bytes.Equal(again, Fit(a, max(len(a), len(b)))) || Gap(again, a) != -1 {
			t.Fatalf("%x and twice %x: %x", a, b, again)
		}
		if !Zero(Xor(a, a)) || len(Xor(a, a)) != len(a) {
			t.Fatalf("%x with itself: %x", a, Xor(a, a))
		}
	}
}

// P4.2: the order doesn't matter.
func TestAnyOrder(t *testing.T) {
	random := rand.New(rand.NewSource(2))
	for _, list := range rows() {
		want := All(list...)
		for range 3 {
			random.Shuffle(len(list), func(i, j int) { list[i], list[j] = list[j], list[i] })
			if got := All(list...); !bytes.Equal(got, want) {
				t.Fatalf("%x: %x instead of %x", list, got, want)
			}
		}
	}
}

func TestFit(t *testing.T) {
	long := bytes.Repeat([]byte{5}, 65537+10)
	for _, b := range [][]byte{nil, {}, {1}, {1, 2, 3}, long} {
		for _, n := range []int{math.MinInt, -1, 0, 1, 2, 3, 4, 10, 65535, 65536, 65537, 70000, 1 << 40, math.MaxInt} {
			size := min(max(n, 0), 65536)
			got := Fit(b, n)
			if len(got) != size {
				t.Fatalf("Fit of %d bytes to %d has %d", len(b), n, len(got))
			}
			for i, x := range got {
				if x != at(b, i) {
					t.Fatalf("Fit of %d bytes to %d has %d at %d", len(b), n, x, i)
				}
			}
		}
	}
}

// What lies behind the length of an argument isn't read.
func TestOnlyTheRowIsRead(t *testing.T) {
	all := []byte{1, 2, 3, 4}
	if got := Fit(all[:2], 4); !bytes.Equal(got, []byte{1, 2, 0, 0}) {
		t.Errorf("%x", got)
	}
	if Gap(all[:2], []byte{1, 2}) != -1 || Gap(all[:1], all[:3]) != 1 || Gap(all[:3], all[:1]) != 1 || !Zero(all[:0]) {
		t.Error("bytes behind the length are seen")
	}
}

func TestZero(t *testing.T) {
	for _, n := range []int{0, 1, 2, 7, 8, 9, 100} {
		b := make([]byte, n)
		if !Zero(b) {
			t.Errorf("%d zeros", n)
		}
		for i := range b {
			for _, x := range []byte{1, 128, 255} {
				b[i] = x
				if Zero(b) {
					t.Errorf("%d at %d of %d", x, i, n)
				}
			}
			b[i] = 0
		}
	}
	if !Zero(nil) {
		t.Error("nil")
	}
}

func TestGap(t *testing.T) {
	for _, c := range []struct {
		a, b string
		want int
	}{
		{"", "", -1}, {"", "\x00\x00", -1}, {"", "\x00\x01", 1}, {"a", "a", -1}, {"a", "b", 0},
		{"ab", "a", 1}, {"a\x00", "a", -1}, {"a\x00\x00c", "a", 3}, {"abc", "abd", 2}, {"xbc", "abd", 0},
		{"a\x00c", "a", 2}, {"a\x00c", "a\x00", 2}, {"\x00", "\x80", 0}, {"a\x01\x00", "a\x00\x00\x01", 1},
	} {
		if got := Gap([]byte(c.a), []byte(c.b)); got != c.want {
			t.Errorf("Gap(%q, %q) = %d, want %d", c.a, c.b, got, c.want)
		}
		if got := Gap([]byte(c.b), []byte(c.a)); got != c.want {
			t.Errorf("Gap(%q, %q) = %d, want %d", c.b, c.a, got, c.want)
		}
	}
}

// P4.3: what comes out is new memory up to its capacity, and what goes in is left as it was.
func TestMemory(t *testing.T) {
	all := []byte{9, 8, 1, 2, 3, 4, 7, 6}
	before := bytes.Clone(all)
	a, b := all[2:4], all[4:7]
	var s Sum
	s.Add(a)
	s.Add(b)
	var single Sum
	single.Add(a)
	for i, got := range [][]byte{Xor(a, b), Xor(a, nil), Xor(nil, a), All(a), All(a, nil), All(a, b), Fold(slices.Values([][]byte{a})),
		Fit(a, 0), Fit(a, 1), Fit(a, 2), Fit(a, 5), s.Bytes(), single.Bytes()} {
		got = got[:cap(got)]
		for j := range got {
			got[j] = 'x'
		}
		if !bytes.Equal(all, before) {
			t.Fatalf("result %d is the memory of an argument", i)
		}
	}
	if !bytes.Equal(s.Bytes(), model(a, b)) || !bytes.Equal(single.Bytes(), a) {
		t.Error("Bytes hands out the memory of the Sum")
	}
	first := s.Bytes()
	s.Add([]byte{255})
	if !bytes.Equal(first, model(a, b)) {
		t.Error("a later Add changes what Bytes has returned")
	}
	all[2] = 77
	if !bytes.Equal(single.Bytes(), []byte{1, 2}) {
		t.Error("the Sum retains its argument")
	}
}
