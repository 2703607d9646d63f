package wire

import (
	"bytes"
	"errors"
	"math"
	"math/rand"
	"runtime"
	"slices"
	"testing"

	"conflux/api"
)

// word, and the like, read one number each, as parsers.
func one(r *Reader) int     { return r.Byte() }
func word(r *Reader) uint16 { return r.Word() }
func long(r *Reader) uint32 { return r.Long() }
func wide(r *Reader) uint64 { return r.Wide() }

// within is b in the midst of other bytes, and a check that none of them has changed.
func within(t *testing.T, b []byte) ([]byte, func()) {
	t.Helper()
	all := append(append([]byte{0xAA, 0xBB}, b...), 0xCC, 0xDD, 0xEE)
	before := bytes.Clone(all)
	return all[2 : 2+len(b)], func() {
		t.Helper()
		if !bytes.Equal(all, before) {
			t.Errorf("the bytes of the caller have changed from %x to %x", before, all)
		}
	}
}

func TestExample(t *testing.T) {
	b, unchanged := within(t, []byte{1, 2, 3})
	got, e := Read(b, func(r *Reader) [2]int { return [2]int{int(r.Word()), r.Byte()} })
	if got != [2]int{0x0102, 3} || e != api.OK {
		t.Errorf("Word and Byte: %x %d", got, e)
	}
	if got, e := Read(b, long); got != 0 || e != api.ErrShort {
		t.Errorf("Long: %x %d", got, e)
	}
	unchanged()
}

// P3.1: all numbers are big-endian, and bytes that are missing are ErrShort, at every length.
func TestNumbersOfEveryLength(t *testing.T) {
	b, unchanged := within(t, []byte{0x81, 0x92, 0xA3, 0xB4, 0xC5, 0xD6, 0xE7, 0xF8, 0x09})
	for _, c := range []struct {
		name  string
		size  int
		want  uint64
		parse func(r *Reader) uint64
	}{
		{"Byte", 1, 0x81, func(r *Reader) uint64 { return uint64(r.Byte()) }},
		{"Word", 2, 0x8192, func(r *Reader) uint64 { return uint64(r.Word()) }},
		{"Long", 4, 0x8192A3B4, func(r *Reader) uint64 { return uint64(r.Long()) }},
		{"Wide", 8, 0x8192A3B4C5D6E7F8, wide},
	} {
		for n := range len(b) + 1 {
			wantE, wantPart, wantRead := api.OK, c.want, c.size
			if n < c.size {
				wantE, wantPart, wantRead = api.ErrShort, 0, 0
			}
			if got, read, e := Part(b[:n], c.parse); got != wantPart || read != wantRead || e != wantE {
				t.Errorf("%s: Part of %d bytes: %x %d %d", c.name, n, got, read, e)
			}
			if n > c.size {
				wantE, wantPart = api.ErrMore, 0
			}
			if got, e := Read(b[:n], c.parse); got != wantPart || e != wantE {
				t.Errorf("%s: Read of %d bytes: %x %d", c.name, n, got, e)
			}
		}
	}
	unchanged()
}

func TestByteIsNotNegative(t *testing.T) {
	for i := range 256 {
		if got, e := Read([]byte{byte(i)}, one); got != i || e != api.OK {
			t.Errorf("%d: %d %d", i, got, e)
		}
	}
}

func TestTakeRestLeft(t *testing.T) {
	b, unchanged := within(t, []byte("abcde"))
	for _, n := range []int{math.MinInt, -1, 0, 1, 2, 4, 5, 6, 7, 1 << 40, math.MaxInt} {
		type found struct {
			before, after, end int
			taken, rest        []byte
		}
		got, read, e := Part(b, func(r *Reader) found {
			f := found{before: r.Left(), taken: r.Take(n), after: r.Left()}
			f.rest, f.end = r.Rest(), r.Left()
			return f
		})
		if n > len(b) {
			if got.taken != nil || got.rest != nil || got.before != 0 || read != 0 || e != api.ErrShort {
				t.Errorf("Take(%d): %v %d %d", n, got, read, e)
			}
			continue
		}
		size := max(n, 0)
		if string(got.taken) != "abcde"[:size] || string(got.rest) != "abcde"[size:] || read != 5 || e != api.OK {
			t.Errorf("Take(%d): %q %q %d %d", n, got.taken, got.rest, read, e)
		}
		if got.before != 5 || got.after != 5-size || got.end != 0 {
			t.Errorf("Left around Take(%d): %d %d %d", n, got.before, got.after, got.end)
		}
	}
	unchanged()
}

// At the end, what asks for nothing still succeeds.
func TestNothingIsReadAtTheEnd(t *testing.T) {
	for _, b := range [][]byte{nil, {}} {
		got, e := Read(b, func(r *Reader) int {
			return 1 + len(r.Take(0)) + len(r.Take(-5)) + len(r.Rest()) + len(r.Rest()) + r.Left()
		})
		if got != 1 || e != api.OK {
			t.Errorf("%d %d", got, e)
		}
		if _, e := Read(b, func(r *Reader) []byte { return r.Take(1) }); e != api.ErrShort {
			t.Errorf("Take(1) of no bytes: %d", e)
		}
	}
}

func TestFail(t *testing.T) {
	for _, c := range []struct{ given, want api.Errno }{
		{api.OK, api.ErrForm}, {api.ErrForm, api.ErrForm}, {api.ErrShort, api.ErrShort}, {api.ErrMore, api.ErrMore},
		{api.ErrArg, api.ErrArg}, {api.ErrBits, api.ErrBits}, {-1, -1}, {12345, 12345}, {math.MinInt, math.MinInt},
	} {
		for _, b := range [][]byte{nil, {1}, {1, 2, 3}} {
			reached := false
			parse := func(r *Reader) string {
				if r.Left() > 1 {
					r.Byte()
				}
				r.Fail(c.given)
				reached = true
				return "x"
			}
			if got, e := Read(b, parse); got != "" || e != c.want {
				t.Errorf("Read(%v) with Fail(%d): %q %d", b, c.given, got, e)
			}
			if got, read, e := Part(b, parse); got != "" || read != 0 || e != c.want {
				t.Errorf("Part(%v) with Fail(%d): %q %d %d", b, c.given, got, read, e)
			}
			if reached {
				t.Errorf("Fail(%d): the rest of parse is executed", c.given)
			}
		}
	}
}

// A parser that is short of bytes ends at once, however deep in it that is.
func TestShortEndsParse(t *testing.T) {
	steps := 0
	var deep func(r *Reader, n int) int
	deep = func(r *Reader, n int) int {
		if n > 0 {
			defer func() { steps++ }()
			n = deep(r, n-1)
			steps += 1000
			return n
		}
		return int(r.Long())
	}
	got, e := Read([]byte{1, 2, 3}, func(r *Reader) int { return deep(r, 5) })
	if got != 0 || e != api.ErrShort || steps != 5 {
		t.Errorf("%d %d, steps %d", got, e, steps)
	}
}

func TestErrorBeatsBytesThatRemain(t *testing.T) {
	if _, e := Read([]byte{1, 2, 3}, func(r *Reader) int { r.Byte(); return int(r.Long()) }); e != api.ErrShort {
		t.Errorf("short, with bytes left: %d", e)
	}
}

func TestResultsOfAnyType(t *testing.T) {
	type pair struct {
		n int
		b []byte
	}
	if got, e := Read([]byte{1}, func(r *Reader) pair { return pair{5, []byte{6}} }); got.n != 0 || got.b != nil || e != api.ErrMore {
		t.Errorf("struct: %v %d", got, e)
	}
	if got, e := Read([]byte{1}, func(r *Reader) any { return r.Byte() }); got != 1 || e != api.OK {
		t.Errorf("interface: %v %d", got, e)
	}
	if got, e := Read([]byte{}, func(r *Reader) *int { r.Byte(); return new(int) }); got != nil || e != api.ErrShort {
		t.Errorf("pointer: %v %d", got, e)
	}
	if got, e := Read(nil, func(r *Reader) error { return errors.New("a value") }); got == nil || e != api.OK {
		t.Errorf("error as a result: %v %d", got, e)
	}
}

// caught is what f panics with.
func caught(f func()) (cause any) {
	defer func() { cause = recover() }()
	f()
	return nil
}

type ownPanic struct{ list []int }

// P3.1: other panics are passed on, whatever they are made of.
func TestOtherPanicsArePassedOn(t *testing.T) {
	wrong := errors.New("wrong")
	for _, cause := range []any{"own", 7, wrong, api.ErrShort, &ownPanic{}} {
		parse := func(r *Reader) int {
			r.Byte()
			panic(cause)
		}
		b := []byte{1, 2}
		for name, f := range map[string]func(){
			"Read": func() { Read(b, parse) },
			"Part": func() { Part(b, parse) },
			"Each": func() { Each(b, 9, parse) },
		} {
			if got := caught(f); got != cause {
				t.Errorf("%s: %v instead of %v", name, got, cause)
			}
		}
	}
	// A value that can't be compared is passed on, too.
	got := caught(func() { Read(nil, func(r *Reader) int { panic(ownPanic{[]int{4}}) }) })
	if p, ok := got.(ownPanic); !ok || !slices.Equal(p.list, []int{4}) {
		t.Errorf("a list: %v", got)
	}
	var list []int
	if got := caught(func() { Read(nil, func(r *Reader) int { return list[3] }) }); got == nil {
		t.Error("a panic of the runtime is lost")
	}
	// It counts more than that reading has ended before.
	if got := caught(func() {
		Read(nil, func(r *Reader) int {
			defer func() { panic("later") }()
			return r.Byte()
		})
	}); got != "later" {
		t.Errorf("a panic while reading ends: %v", got)
	}
}

// Runs within runs: each ends by the failure of its own reader.
func TestInnerFailureIsAResultForTheOuter(t *testing.T) {
	got, e := Read([]byte{1, 2}, func(r *Reader) api.Errno {
		_, inner := Read(r.Rest(), long)
		return inner
	})
	if got != api.ErrShort || e != api.OK {
		t.Errorf("%d %d", got, e)
	}
}

func TestOuterFailureEndsTheOuter(t *testing.T) {
	reached := false
	got, read, e := Part([]byte{1, 2}, func(outer *Reader) int {
		for range 3 {
			Each([]byte{3, 4}, 9, func(inner *Reader) int {
				inner.Byte()
				return int(outer.Long())
			})
			reached = true
		}
		return 5
	})
	if got != 0 || read != 0 || e != api.ErrShort || reached {
		t.Errorf("%d %d %d, reached: %v", got, read, e, reached)
	}
}

// Reading has ended even where the parser recovers.
func TestParseCannotUndoAFailure(t *testing.T) {
	parse := func(r *Reader) int {
		caught(func() { r.Fail(api.ErrBits) })
		r.Byte()
		caught(func() { r.Long() })
		caught(func() { r.Fail(api.ErrSpan) })
		return 9
	}
	if got, e := Read([]byte{1}, parse); got != 0 || e != api.ErrBits {
		t.Errorf("Read: %d %d", got, e)
	}
	if got, read, e := Part([]byte{1, 2}, parse); got != 0 || read != 0 || e != api.ErrBits {
		t.Errorf("Part: %d %d %d", got, read, e)
	}
	if got, e := Each([]byte{1, 2}, 0, parse); got != nil || e != api.ErrBits {
		t.Errorf("Each: %v %d", got, e)
	}
}

// A copy of a reader reads by itself, but its failure is one of the same run.
func TestCopyOfAReader(t *testing.T) {
	got, read, e := Part([]byte{1, 2, 3}, func(r *Reader) [3]int {
		r.Byte()
		ahead := *r
		return [3]int{ahead.Byte(), ahead.Left(), r.Left()}
	})
	if got != [3]int{2, 1, 2} || read != 1 || e != api.OK {
		t.Errorf("%v %d %d", got, read, e)
	}
	if _, e := Read([]byte{1}, func(r *Reader) int {
		ahead := *r
		r.Byte()
		return int(ahead.Word())
	}); e != api.ErrShort {
		t.Errorf("a copy fails: %d", e)
	}
}

// P1: outside of parse a reader has no bytes, and nobody would catch its failure.
func TestReaderOutsideOfParse(t *testing.T) {
	var kept *Reader
	var copied Reader
	keep := func(r *Reader) int {
		kept, copied = r, *r
		return 0
	}
	Part([]byte{1, 2, 3, 4, 5, 6, 7, 8, 9}, keep)
	caught(func() {
		Part([]byte{1, 2, 3}, func(r *Reader) int {
			keep(r)
			panic("own")
		})
	})
	failed := &Reader{}
	Part([]byte{1, 2, 3}, func(r *Reader) int {
		failed = r
		return int(r.Long())
	})
	for i, r := range []*Reader{{}, kept, &copied, failed} {
		if r.Left() != 0 || r.Byte() != 0 || r.Word() != 0 || r.Long() != 0 || r.Wide() != 0 {
			t.Errorf("reader %d has numbers", i)
		}
		for _, n := range []int{math.MinInt, -1, 0, 1, 3, math.MaxInt} {
			if len(r.Take(n)) != 0 || len(r.Rest()) != 0 {
				t.Errorf("reader %d has bytes", i)
			}
		}
		r.Fail(api.ErrArg)
		r.Fail(api.OK)
	}
}

// Whatever parse puts in place of its reader, nothing of wire panics.
func TestReaderThatIsReplaced(t *testing.T) {
	longer := make([]byte, 100)
	for name, parse := range map[string]func(r *Reader) int{
		"empty": func(r *Reader) int { *r = Reader{}; return r.Byte() },
		"other": func(r *Reader) int {
			n, _, _ := Part(longer, func(inner *Reader) int { *r = *inner; return 1 })
			return n + r.Byte()
		},
	} {
		if cause := caught(func() {
			Read([]byte{1, 2}, parse)
			Part([]byte{1, 2}, parse)
			Each([]byte{1, 2}, 5, parse)
		}); cause != nil {
			t.Errorf("%s: %v", name, cause)
		}
	}
}

// P1: without a parser nothing is read.
func TestNoParser(t *testing.T) {
	if got, e := Read[int](nil, nil); got != 0 || e != api.OK {
		t.Errorf("Read of no bytes: %d %d", got, e)
	}
	if got, e := Read[int]([]byte{1}, nil); got != 0 || e != api.ErrMore {
		t.Errorf("Read: %d %d", got, e)
	}
	if got, read, e := Part[int]([]byte{1}, nil); got != 0 || read != 0 || e != api.OK {
		t.Errorf("Part: %d %d %d", got, read, e)
	}
	if got, e := Each[int]([]byte{1}, 1, nil); got != nil || e != api.ErrForm {
		t.Errorf("Each: %v %d", got, e)
	}
}

func TestPartCountsWhatWasRead(t *testing.T) {
	b := []byte("0123456789abcdefghij")
	got, read, e := Part(b, func(r *Reader) int {
		r.Byte()
		r.Word()
		r.Long()
		r.Wide()
		r.Take(2)
		r.Take(-1)
		return r.Left()
	})
	if got != 3 || read != 17 || e != api.OK {
		t.Errorf("%d %d %d", got, read, e)
	}
	if _, read, e := Part(b, func(r *Reader) []byte { return r.Rest() }); read != len(b) || e != api.OK {
		t.Errorf("Rest: %d %d", read, e)
	}
	if got, read, e := Part(b, func(r *Reader) int { return 4 }); got != 4 || read != 0 || e != api.OK {
		t.Errorf("nothing: %d %d %d", got, read, e)
	}
}

func TestEach(t *testing.T) {
	for _, c := range []struct {
		b    string
		most int
		want []uint16
		e    api.Errno
	}{
		{"", 0, nil, api.OK},
		{"", -1, nil, api.OK},
		{"", 5, nil, api.OK},
		{"\x01\x02", 1, []uint16{0x0102}, api.OK},
		{"\x01\x02\x03\x04\x05\x06", 3, []uint16{0x0102, 0x0304, 0x0506}, api.OK},
		{"\x01\x02\x03\x04\x05\x06", math.MaxInt, []uint16{0x0102, 0x0304, 0x0506}, api.OK},
		{"\x01\x02\x03\x04\x05\x06", 2, nil, api.ErrMany},
		{"\x01\x02\x03\x04\x05\x06", 1, nil, api.ErrMany},
		{"\x01\x02", 0, nil, api.ErrMany},
		{"\x01\x02", -1, nil, api.ErrMany},
		{"\x01\x02", math.MinInt, nil, api.ErrMany},
		{"\x01", 5, nil, api.ErrShort},
		{"\x01", 0, nil, api.ErrShort},
		{"\x01\x02\x03", 5, nil, api.ErrShort},
		// The third call fails, so it doesn't matter that there would be too many.
		{"\x01\x02\x03\x04\x05", 2, nil, api.ErrShort},
		// Too many come ahead of the bytes that are missing.
		{"\x01\x02\x03\x04\x05", 1, nil, api.ErrMany},
	} {
		b, unchanged := within(t, []byte(c.b))
		if got, e := Each(b, c.most, word); !slices.Equal(got, c.want) || e != c.e || e != api.OK && got != nil {
			t.Errorf("Each(%x, %d): %x %d", c.b, c.most, got, e)
		}
		unchanged()
	}
}

func TestEachOfNothingRead(t *testing.T) {
	for _, most := range []int{math.MinInt, -1, 0, 1, 7} {
		calls := 0
		got, e := Each([]byte{1}, most, func(r *Reader) int { calls++; return r.Left() })
		if got != nil || e != api.ErrForm || calls != 1 {
			t.Errorf("most %d: %v %d, %d calls", most, got, e, calls)
		}
	}
	// Not only at the start.
	got, e := Each([]byte{2, 9, 1}, 2, func(r *Reader) []byte {
		if r.Left() == 1 {
			return nil
		}
		return r.Take(2)
	})
	if got != nil || e != api.ErrForm {
		t.Errorf("later: %v %d", got, e)
	}
}

// Each stops at the first error, and at the end of the bytes.
func TestEachCallsParseNoMoreThanNeeded(t *testing.T) {
	for _, c := range []struct{ most, calls int }{{10, 4}, {4, 4}, {3, 4}, {2, 3}, {0, 1}, {-3, 1}} {
		calls := 0
		var left []int
		Each([]byte{1, 2, 3, 4}, c.most, func(r *Reader) int {
			calls++
			left = append(left, r.Left())
			return r.Byte()
		})
		if calls != c.calls || !slices.Equal(left, []int{4, 3, 2, 1}[:c.calls]) {
			t.Errorf("most %d: %d calls, left %v", c.most, calls, left)
		}
	}
	Each(nil, 5, func(r *Reader) int {
		t.Error("parse is called for no bytes")
		return 0
	})
}

func TestEachOfVaryingSizes(t *testing.T) {
	sized := func(r *Reader) string { return string(r.Take(r.Byte())) }
	got, e := Each([]byte("\x01a\x00\x03bcd\x02ef"), 4, sized)
	if !slices.Equal(got, []string{"a", "", "bcd", "ef"}) || e != api.OK {
		t.Errorf("%q %d", got, e)
	}
	if got, e := Each([]byte("\x01a\x00\x03bcd\x02e"), 4, sized); got != nil || e != api.ErrShort {
		t.Errorf("short: %q %d", got, e)
	}
	if got, e := Each([]byte("\x01a\x00"), 4, func(r *Reader) int {
		n := r.Byte()
		if n == 0 {
			r.Fail(api.ErrWrong)
		}
		r.Take(n)
		return n
	}); got != nil || e != api.ErrWrong {
		t.Errorf("own error: %v %d", got, e)
	}
}

func TestWriter(t *testing.T) {
	var w Writer
	if w.Len() != 0 || len(w.Done()) != 0 {
		t.Errorf("empty: %d %x", w.Len(), w.Done())
	}
	b, unchanged := within(t, []byte("xyz"))
	for _, c := range []struct {
		write func()
		want  string
	}{
		{func() { w.Byte(0x12) }, "\x12"},
		{func() { w.Byte(0x1FF) }, "\xFF"},
		{func() { w.Byte(0x100) }, "\x00"},
		{func() { w.Byte(-1) }, "\xFF"},
		{func() { w.Byte(-2) }, "\xFE"},
		{func() { w.Byte(math.MinInt) }, "\x00"},
		{func() { w.Byte(math.MaxInt) }, "\xFF"},
		{func() { w.Word(0x8192) }, "\x81\x92"},
		{func() { w.Word(1) }, "\x00\x01"},
		{func() { w.Long(0x8192A3B4) }, "\x81\x92\xA3\xB4"},
		{func() { w.Long(1) }, "\x00\x00\x00\x01"},
		{func() { w.Wide(0x8192A3B4C5D6E7F8) }, "\x81\x92\xA3\xB4\xC5\xD6\xE7\xF8"},
		{func() { w.Wide(1) }, "\x00\x00\x00\x00\x00\x00\x00\x01"},
		{func() { w.Put(b) }, "xyz"},
		{func() { w.Put(nil) }, ""},
		{func() { w.Put([]byte{}) }, ""},
	} {
		before := string(w.Done())
		c.write()
		if got := string(w.Done()); got != before+c.want || w.Len() != len(got) {
			t.Errorf("%x became %x (Len %d), without %x behind it", before, got, w.Len(), c.want)
		}
	}
	unchanged()
}

// step is one number or text that is written and read.
type step struct {
	kind int
	n    uint64
	b    []byte
}

func (s step) write(w *Writer) {
	switch s.kind {
	case 0:
		w.Byte(int(s.n))
	case 1:
		w.Word(uint16(s.n))
	case 2:
		w.Long(uint32(s.n))
	case 3:
		w.Wide(s.n)
	default:
		w.Put(s.b)
	}
}

func (s step) reads(r *Reader) bool {
	switch s.kind {
	case 0:
		return r.Byte() == int(byte(s.n))
	case 1:
		return r.Word() == uint16(s.n)
	case 2:
		return r.Long() == uint32(s.n)
	case 3:
		return r.Wide() == s.n
	default:
		return bytes.Equal(r.Take(len(s.b)), s.b)
	}
}

// P3.2, P5: what is written is read back, and any end that is cut off is ErrShort.
func TestWrittenIsReadBack(t *testing.T) {
	random := rand.New(rand.NewSource(1))
	for range 300 {
		var w Writer
		var steps []step
		for range random.Intn(12) {
			s := step{random.Intn(5), random.Uint64(), make([]byte, random.Intn(6))}
			random.Read(s.b)
			steps = append(steps, s)
			s.write(&w)
		}
		all := func(r *Reader) bool {
			for _, s := range steps {
				if !s.reads(r) {
					return false
				}
			}
			return true
		}
		b := w.Done()
		if same, e := Read(b, all); !same || e != api.OK {
			t.Fatalf("%v: %v %d", steps, same, e)
		}
		for n := range b {
			if same, e := Read(b[:n], all); same || e != api.ErrShort {
				t.Fatalf("%v cut at %d: %v %d", steps, n, same, e)
			}
		}
		if same, e := Read(append(b, 0), all); same || e != api.ErrMore {
			t.Fatalf("%v and a byte: %v %d", steps, same, e)
		}
	}
}

// P3.3: bytes that come out are new memory, with what lies behind their length.
func TestBytesAreNewMemory(t *testing.T) {
	b, unchanged := within(t, []byte("abcdef"))
	parts, e := Read(b, func(r *Reader) [][]byte { return [][]byte{r.Take(0), r.Take(2), r.Take(2), r.Rest(), r.Rest()} })
	if e != api.OK {
		t.Fatal(e)
	}
	for _, p := range parts {
		p = p[:cap(p)]
		for i := range p {
			p[i] = 'x'
		}
	}
	unchanged()
	parts, _ = Read(b, func(r *Reader) [][]byte { return [][]byte{r.Take(3), r.Rest()} })
	_ = append(parts[0], "xxxxxxxx"...)
	if string(parts[1]) != "def" {
		t.Errorf("two results share memory: %q", parts[1])
	}
	copy(b, "ABCDEF")
	if string(parts[0])+string(parts[1]) != "abcdef" {
		t.Errorf("results share memory with the argument: %q", parts)
	}
}

func TestWriterKeepsItsOwnMemory(t *testing.T) {
	var w Writer
	b := []byte("abc")
	w.Put(b)
	b[0] = 'x'
	first := w.Done()
	if string(first) != "abc" {
		t.Errorf("the argument is retained: %q", first)
	}
	second := w.Done()
	spare := first[:cap(first)]
	for i := range spare {
		spare[i] = 'y'
	}
	if string(second) != "abc" || string(w.Done()) != "abc" {
		t.Errorf("results share memory: %q %q", second, w.Done())
	}
	w.Byte('d')
	if string(first) != "yyy" || string(second) != "abc" || string(w.Done()) != "abcd" {
		t.Errorf("writing changes results: %q %q %q", first, second, w.Done())
	}
	// A writer may be given what it has written.
	w.Put(w.Done())
	if string(w.Done()) != "abcdabcd" {
		t.Errorf("%q", w.Done())
	}
}

// A parser that ends its goroutine (as a test that fails does) isn't taken for one that returns.
func TestParserThatEndsItsGoroutine(t *testing.T) {
	returned := make(chan bool)
	go func() {
		back := false
		defer func() { returned <- back }()
		Read(nil, func(r *Reader) int {
			runtime.Goexit()
			return 0
		})
		back = true
	}()
	if <-returned {
		t.Error("Read returns")
	}
}
