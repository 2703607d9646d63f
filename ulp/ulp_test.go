package ulp

import (
	"bytes"
	"math"
	"math/rand"
	"slices"
	"strconv"
	"strings"
	"testing"

	"conflux/api"
	"conflux/mask"
)

// header is that of a pack with short masks, and longHeader that of one with long ones.
const (
	header     = "\x01\x82\x81\x92\x83\x84\x85\x86\x87\x88"
	longHeader = "\x7F\x82\x81\x92\x83\x84\x85\x86\x87\x88"
)

const (
	short = header + "\x00\x02\xA0\x01ab"
	two   = header + "\x00\x02\xA0\x01ab" + "\x00\x03\x00\x80cde"
	long  = longHeader + "\x00\x02\xA0\x00\x00\x80\x00\x01ab" + "\x00\x01\x00\x00\x00\x00\x00\x00c"
)

func shortPack() Pack {
	return Pack{
		Head: [8]byte{1, 0x82, 0x83, 0x84, 0x85, 0x86, 0x87, 0x88}, Base: 0x8192,
		Levels: []Level{{mask.Of(0, 2, 15), []byte("ab")}},
	}
}

func twoPack() Pack {
	p := shortPack()
	p.Levels = append(p.Levels, Level{mask.Of(8), []byte("cde")})
	return p
}

func longPack() Pack {
	p := shortPack()
	p.Head[0], p.Long = 0x3F, true
	p.Levels = []Level{{mask.Of(0, 2, 24, 47), []byte("ab")}, {mask.Mask{}, []byte("c")}}
	return p
}

// bits are the last digits of a number in base 2.
func bits(n uint64, size int) string {
	text := ""
	for i := size - 1; i >= 0; i-- {
		text += strconv.Itoa(int(n >> i & 1))
	}
	return text
}

func digit(on bool) string {
	if on {
		return "1"
	}
	return "0"
}

// pack is bytes, given bit by bit.
func pack(t *testing.T, text string) []byte {
	t.Helper()
	var b []byte
	for i := 0; i < len(text); i += 8 {
		n, err := strconv.ParseUint(text[i:i+8], 2, 8)
		if err != nil {
			t.Fatal(err)
		}
		b = append(b, byte(n))
	}
	return b
}

func modelBits(long bool) int {
	if long {
		return 48
	}
	return 16
}

// model is the encoding of a valid pack, put together bit by bit as the document lists them.
func model(t *testing.T, p Pack) []byte {
	t.Helper()
	b := pack(t, "0"+digit(p.Long)+bits(uint64(p.Head[0]), 6)+bits(uint64(p.Head[1]), 8)+bits(uint64(p.Base), 16))
	b = append(b, p.Head[2:]...)
	for _, level := range p.Levels {
		text := bits(uint64(len(level.Body)), 16)
		for i := range modelBits(p.Long) {
			text += digit(level.Mask.Has(i))
		}
		b = append(append(b, pack(t, text)...), level.Body...)
	}
	return b
}

// parseFault is the error of Parse, worked out from where the levels would lie.
func parseFault(b []byte) api.Errno {
	switch {
	case len(b) > 1500:
		return api.ErrLong
	case len(b) > 0 && b[0] >= 128:
		return api.ErrForm
	case len(b) < 10:
		return api.ErrShort
	}
	maskSize := 2
	if b[0]&64 != 0 {
		maskSize = 6
	}
	empty := false
	for at, level := 10, 0; level == 0 || at < len(b); level++ {
		if at+2+maskSize > len(b) {
			return api.ErrShort
		}
		end := at + 2 + maskSize + 256*int(b[at]) + int(b[at+1])
		if end > len(b) {
			return api.ErrShort
		}
		if level == 2 {
			return api.ErrMany
		}
		if level == 0 {
			empty = bytes.Equal(b[at+2:at+2+maskSize], make([]byte, maskSize))
		}
		at = end
	}
	if empty {
		return api.ErrBits
	}
	return api.OK
}

// writeFault is the error of Write, by the document's definition of a valid pack.
func writeFault(p Pack) api.Errno {
	if len(p.Levels) == 0 {
		return api.ErrNone
	}
	if len(p.Levels) > 2 {
		return api.ErrMany
	}
	if p.Levels[0].Mask.Count() == 0 {
		return api.ErrBits
	}
	size := 10
	for _, level := range p.Levels {
		for i := modelBits(p.Long); i < 128; i++ {
			if level.Mask.Has(i) {
				return api.ErrBits
			}
		}
		size += 2 + modelBits(p.Long)/8 + len(level.Body)
	}
	if size > 1500 {
		return api.ErrLong
	}
	return api.OK
}

// copyOf is a pack of the same that shares no memory with it.
func copyOf(p Pack) Pack {
	p.Levels = slices.Clone(p.Levels)
	for i := range p.Levels {
		p.Levels[i].Body = bytes.Clone(p.Levels[i].Body)
	}
	return p
}

// equal tells whether all of two packs is the same, Head as a whole.
func equal(a, b Pack) bool {
	return a.Head == b.Head && a.Base == b.Base && a.Long == b.Long &&
		slices.EqualFunc(a.Levels, b.Levels, func(x, y Level) bool { return x.Mask == y.Mask && bytes.Equal(x.Body, y.Body) })
}

func equalRepairs(a, b api.Repair) bool {
	return a.Head == b.Head && a.Base == b.Base && a.Hi == b.Hi && a.Lo == b.Lo && bytes.Equal(a.Body, b.Body)
}

// masked is a head without its first two bits.
func masked(head [8]byte) [8]byte {
	head[0] %= 64
	return head
}

// checkBytes holds what is parsed from bytes against the document.
func checkBytes(t *testing.T, b []byte) {
	t.Helper()
	before := bytes.Clone(b)
	p, e := Parse(b)
	if want := parseFault(b); e != want {
		t.Fatalf("Parse(%x): %d, want %d", b, e, want)
	}
	if !bytes.Equal(b, before) {
		t.Fatalf("Parse changes %x to %x", before, b)
	}
	if e != api.OK {
		if !equal(p, Pack{}) {
			t.Fatalf("Parse(%x): %+v beside %d", b, p, e)
		}
		return
	}
	if writeFault(p) != api.OK || p.Head != masked(p.Head) || !bytes.Equal(model(t, p), b) {
		t.Fatalf("Parse(%x): %+v", b, p)
	}
	if again, e := Write(p); e != api.OK || !bytes.Equal(again, b) {
		t.Fatalf("%x is written as %x %d", b, again, e)
	}
}

// checkPack holds what is made of a pack against the document.
func checkPack(t *testing.T, p Pack) {
	t.Helper()
	before := copyOf(p)
	b, e := Write(p)
	want := writeFault(p)
	if e != want {
		t.Fatalf("Write(%+v): %d, want %d", p, e, want)
	}
	checkFlat(t, p, want)
	if !equal(p, before) {
		t.Fatalf("%+v became %+v", before, p)
	}
	if e != api.OK {
		if len(b) != 0 {
			t.Fatalf("Write(%+v): %x beside %d", p, b, e)
		}
		return
	}
	if !bytes.Equal(b, model(t, p)) {
		t.Fatalf("Write(%+v): %x", p, b)
	}
	before.Head = masked(p.Head)
	if got, e := Parse(b); e != api.OK || !equal(got, before) || !Same(got, p) {
		t.Fatalf("%+v is parsed back as %+v %d", p, got, e)
	}
}

// checkFlat holds Flat against the document: want is the error of Write.
func checkFlat(t *testing.T, p Pack, want api.Errno) {
	t.Helper()
	r, e := Flat(p)
	if want == api.OK && len(p.Levels) == 2 && p.Levels[0].Mask != p.Levels[1].Mask {
		want = api.ErrBits
	}
	var repair api.Repair
	if want == api.OK {
		m := p.Levels[0].Mask
		repair = api.Repair{Head: masked(p.Head), Base: p.Base, Hi: m.Hi, Lo: m.Lo}
		for _, level := range p.Levels {
			repair.Body = slices.Concat(repair.Body, level.Body)
		}
	}
	if e != want || !equalRepairs(r, repair) {
		t.Fatalf("Flat(%+v): %+v %d, want %+v %d", p, r, e, repair, want)
	}
}

func TestExample(t *testing.T) {
	p := Pack{Base: 5, Levels: []Level{{Mask: mask.Of(0, 2)}}}
	const text = "\x00\x00\x00\x05\x00\x00\x00\x00\x00\x00\x00\x00\xA0\x00"
	if b, e := Write(p); e != api.OK || string(b) != text {
		t.Errorf("%x %d", b, e)
	}
	if got, e := Parse([]byte(text)); e != api.OK || !equal(got, p) {
		t.Errorf("%+v %d", got, e)
	}
}

func TestAllParts(t *testing.T) {
	for text, p := range map[string]Pack{short: shortPack(), two: twoPack(), long: longPack()} {
		if b, e := Write(p); e != api.OK || string(b) != text {
			t.Errorf("Write(%+v): %x %d", p, b, e)
		}
		if got, e := Parse([]byte(text)); e != api.OK || !equal(got, p) {
			t.Errorf("Parse(%x): %+v %d", text, got, e)
		}
		checkPack(t, p)
		checkBytes(t, []byte(text))
	}
}

// All values of the first two bytes, with so many bytes behind them.
func TestFirstBytes(t *testing.T) {
	for i := range 1 << 16 {
		for _, text := range []string{short, two, long} {
			b := append([]byte{byte(i >> 8), byte(i)}, text[2:]...)
			for _, n := range []int{0, 1, 2, 9, 10, 14, len(text)} {
				if _, e := Parse(b[:n]); e != parseFault(b[:n]) {
					t.Fatalf("Parse(%x): %d", b[:n], e)
				}
			}
			p, e := Parse(b)
			if e == api.OK && (p.Long != (b[0] >= 64) || p.Head[0] != b[0]%64 || p.Head[1] != b[1]) {
				t.Fatalf("Parse(%x): %+v", b, p)
			}
		}
	}
}

// What is cut off within a level is too short; between levels there is just a level less.
func TestEveryLength(t *testing.T) {
	for text, ends := range map[string][]int{short: {16}, two: {16, 23}, long: {20, 29}} {
		for n := range len(text) + 1 {
			want := api.ErrShort
			if slices.Contains(ends, n) {
				want = api.OK
			}
			p, e := Parse([]byte(text[:n]))
			if e != want || e == api.OK && len(p.Levels) != 1+slices.Index(ends, n) {
				t.Errorf("%d bytes of %x: %+v %d", n, text, p, e)
			}
			checkBytes(t, []byte(text[:n]))
		}
	}
}

func TestOrderOfParseErrors(t *testing.T) {
	const empty = header + "\x00\x00\x00\x00"
	const level = "\x00\x01\x80\x00z"
	zeros := func(first string, n int) string { return first + strings.Repeat("\x00", n-len(first)) }
	for _, c := range []struct {
		name, b string
		e       api.Errno
	}{
		{"too long, with a wrong first bit", zeros("\x80", 1501), api.ErrLong},
		{"too long, with an empty mask", zeros("", 1501), api.ErrLong},
		{"too long by a byte, and complete", zeros(header+"\x05\xCF\x80\x00", 1501), api.ErrLong},
		{"as long as may be", zeros(header+"\x05\xCE\x80\x00", 1500), api.OK},
		{"as long as may be, with a wrong first bit", zeros("\xC0", 1500), api.ErrForm},
		{"no bytes", "", api.ErrShort},
		{"a wrong first bit alone", "\x80", api.ErrForm},
		{"all of the first bits alone", "\xFF", api.ErrForm},
		{"a wrong first bit, complete", "\x81" + short[1:], api.ErrForm},
		{"a wrong first bit, with an empty mask", "\x81" + empty[1:], api.ErrForm},
		{"a byte", "\x7F", api.ErrShort},
		{"a header but for a byte", header[:9], api.ErrShort},
		{"a header", header, api.ErrShort},
		{"a level without a part of its mask", header + "\x00\x00\x80", api.ErrShort},
		{"an empty mask, without its body", header + "\x00\x01\x00\x00", api.ErrShort},
		{"an empty mask", empty, api.ErrBits},
		{"an empty mask with a body", header + "\x00\x02\x00\x00ab", api.ErrBits},
		{"an empty mask of 48 bits", longHeader + "\x00\x00" + "\x00\x00\x00\x00\x00\x00", api.ErrBits},
		{"the last one of 48 bits", longHeader + "\x00\x00" + "\x00\x00\x00\x00\x00\x01", api.OK},
		{"a mask of 48 bits that is cut off", longHeader + "\x00\x00" + "\x00\x00\x00\x00\x01", api.ErrShort},
		{"a body that is cut off", header + "\x00\x03\x80\x00ab", api.ErrShort},
		{"the longest body, cut off", header + "\xFF\xFF\x80\x00ab", api.ErrShort},
		{"two levels", short + level, api.OK},
		{"a second mask that is empty", short + "\x00\x01\x00\x00z", api.OK},
		{"an empty mask, and a second level", empty + level, api.ErrBits},
		{"an empty mask, and a part of a second level", empty + level[:4], api.ErrShort},
		{"a byte of a second level", short + "\x00", api.ErrShort},
		{"three levels", short + level + level, api.ErrMany},
		{"three levels, the first mask empty", empty + level + level, api.ErrMany},
		{"three levels of nothing", empty + "\x00\x00\x00\x00" + "\x00\x00\x00\x00", api.ErrMany},
		{"a byte of a third level", short + level + "\x00", api.ErrShort},
		{"a part of a third level", short + level + level[:4], api.ErrShort},
		{"three levels and a byte", short + level + level + "\x00", api.ErrMany},
		{"four levels", short + level + level + level, api.ErrMany},
		{"a part of a third level, the first mask empty", empty + level + level[:3], api.ErrShort},
	} {
		if _, e := Parse([]byte(c.b)); e != c.e {
			t.Errorf("%s: %d, want %d", c.name, e, c.e)
		}
		checkBytes(t, []byte(c.b))
	}
}

func TestOrderOfWriteErrors(t *testing.T) {
	one := mask.Of(0)
	body := func(n int) []byte { return make([]byte, n) }
	levels := func(list ...Level) []Level { return list }
	for _, c := range []struct {
		name string
		p    Pack
		e    api.Errno
	}{
		{"the zero value", Pack{}, api.ErrNone},
		{"none of a long one", Pack{Long: true, Levels: []Level{}}, api.ErrNone},
		{"three levels", Pack{Levels: levels(Level{Mask: one}, Level{Mask: one}, Level{Mask: one})}, api.ErrMany},
		{"three levels that aren't valid", Pack{Levels: slices.Repeat(levels(Level{mask.Of(99), body(1600)}), 3)}, api.ErrMany},
		{"many levels", Pack{Levels: make([]Level, 1000)}, api.ErrMany},
		{"an empty mask", Pack{Levels: levels(Level{})}, api.ErrBits},
		{"an empty mask of a long one", Pack{Long: true, Levels: levels(Level{})}, api.ErrBits},
		{"two empty masks", Pack{Levels: levels(Level{}, Level{})}, api.ErrBits},
		{"an empty first mask", Pack{Levels: levels(Level{}, Level{Mask: one})}, api.ErrBits},
		{"an empty second mask", Pack{Levels: levels(Level{Mask: one}, Level{})}, api.OK},
		{"bit 15", Pack{Levels: levels(Level{Mask: mask.Of(15)})}, api.OK},
		{"bit 16", Pack{Levels: levels(Level{Mask: mask.Of(16)})}, api.ErrBits},
		{"bit 16 beside others", Pack{Levels: levels(Level{Mask: mask.Of(0, 16)})}, api.ErrBits},
		{"bit 16 of the second mask", Pack{Levels: levels(Level{Mask: one}, Level{Mask: mask.Of(16)})}, api.ErrBits},
		{"bit 127", Pack{Levels: levels(Level{Mask: mask.Of(127)})}, api.ErrBits},
		{"bit 16 of a long one", Pack{Long: true, Levels: levels(Level{Mask: mask.Of(16)})}, api.OK},
		{"bit 0 of a long one", Pack{Long: true, Levels: levels(Level{Mask: one})}, api.OK},
		{"bit 47", Pack{Long: true, Levels: levels(Level{Mask: mask.Of(47)})}, api.OK},
		{"bit 48", Pack{Long: true, Levels: levels(Level{Mask: mask.Of(48)})}, api.ErrBits},
		{"bit 48 of the second mask", Pack{Long: true, Levels: levels(Level{Mask: one}, Level{Mask: mask.Of(0, 48)})}, api.ErrBits},
		{"bit 64 of a long one", Pack{Long: true, Levels: levels(Level{Mask: mask.Of(0, 64)})}, api.ErrBits},
		{"1500 bytes", Pack{Levels: levels(Level{one, body(1486)})}, api.OK},
		{"1501 bytes", Pack{Levels: levels(Level{one, body(1487)})}, api.ErrLong},
		{"a body of 1500 bytes", Pack{Levels: levels(Level{one, body(1500)})}, api.ErrLong},
		{"a body of 1501 bytes", Pack{Levels: levels(Level{one, body(1501)})}, api.ErrLong},
		{"a body of 65536 bytes", Pack{Levels: levels(Level{one, body(1 << 16)})}, api.ErrLong},
		{"a second body of 65536 bytes", Pack{Levels: levels(Level{one, nil}, Level{one, body(1 << 16)})}, api.ErrLong},
		{"1500 bytes of a long one", Pack{Long: true, Levels: levels(Level{one, body(1482)})}, api.OK},
		{"1501 bytes of a long one", Pack{Long: true, Levels: levels(Level{one, body(1483)})}, api.ErrLong},
		{"1500 bytes of two levels", Pack{Levels: levels(Level{one, body(1000)}, Level{one, body(482)})}, api.OK},
		{"1501 bytes of two levels", Pack{Levels: levels(Level{one, body(1000)}, Level{one, body(483)})}, api.ErrLong},
		{"1500 bytes of two long levels", Pack{Long: true, Levels: levels(Level{one, nil}, Level{one, body(1474)})}, api.OK},
		{"1501 bytes of two long levels", Pack{Long: true, Levels: levels(Level{one, nil}, Level{one, body(1475)})}, api.ErrLong},
		{"an empty mask and a body that is too long", Pack{Levels: levels(Level{mask.Mask{}, body(1600)})}, api.ErrBits},
		{"a second mask behind a body that is too long", Pack{Levels: levels(Level{one, body(1600)}, Level{Mask: mask.Of(16)})}, api.ErrBits},
	} {
		if _, e := Write(c.p); e != c.e {
			t.Errorf("%s: %d, want %d", c.name, e, c.e)
		}
		checkPack(t, c.p)
	}
}

// Each bit of a mask by itself, as the first and as the second one.
func TestEachBit(t *testing.T) {
	for i := range 128 {
		for _, long := range []bool{false, true} {
			for _, second := range []mask.Mask{{}, mask.Of(0), mask.Of(i)} {
				p := shortPack()
				p.Long = long
				p.Levels = []Level{{mask.Of(i), []byte("a")}, {second, []byte("b")}}
				checkPack(t, p)
				p.Levels[0], p.Levels[1] = p.Levels[1], p.Levels[0]
				checkPack(t, p)
				checkPack(t, Pack{Long: long, Levels: p.Levels[:1]})
				checkPack(t, Pack{Long: long, Levels: p.Levels[1:]})
			}
		}
	}
}

func TestFlat(t *testing.T) {
	same := twoPack()
	same.Head[0] = 0xC1
	same.Levels[1].Mask = same.Levels[0].Mask
	want := api.Repair{Head: shortPack().Head, Base: 0x8192, Hi: 1<<63 | 1<<61 | 1<<48, Body: []byte("abcde")}
	if r, e := Flat(same); e != api.OK || !equalRepairs(r, want) {
		t.Errorf("%+v %d", r, e)
	}
	for _, p := range []Pack{twoPack(), longPack()} {
		if r, e := Flat(p); e != api.ErrBits || !equalRepairs(r, api.Repair{}) {
			t.Errorf("Flat(%+v): %+v %d", p, r, e)
		}
	}
	// Masks that differ don't matter where the pack isn't valid for another reason.
	wide := twoPack()
	wide.Levels[1].Body = make([]byte, 1500)
	if _, e := Flat(wide); e != api.ErrLong {
		t.Errorf("too long: %d", e)
	}
	wide.Levels = append(wide.Levels, Level{})
	if _, e := Flat(wide); e != api.ErrMany {
		t.Errorf("too many: %d", e)
	}
	if _, e := Flat(Pack{}); e != api.ErrNone {
		t.Errorf("none: %d", e)
	}
}

// modelOf is the pack of a repair, and its error.
func modelOf(r api.Repair, cut int) (Pack, api.Errno) {
	m := mask.Mask{Hi: r.Hi, Lo: r.Lo}
	p := Pack{Head: r.Head, Base: r.Base, Long: m.And(mask.Full(16)) != m, Levels: []Level{{m, r.Body}}}
	if cut >= 0 && cut < len(r.Body) {
		p.Levels = []Level{{m, r.Body[:cut]}, {m, r.Body[cut:]}}
	}
	if e := writeFault(p); e != api.OK {
		return Pack{}, e
	}
	return p, api.OK
}

// checkOf holds the pack of a repair, and the repair of that pack, against the document.
func checkOf(t *testing.T, r api.Repair, cut int) {
	t.Helper()
	before := bytes.Clone(r.Body)
	want, e := modelOf(r, cut)
	p, got := Of(r, cut)
	if got != e || !Same(p, want) || !bytes.Equal(r.Body, before) {
		t.Fatalf("Of(%+v, %d): %+v %d, want %+v %d", r, cut, p, got, want, e)
	}
	if e != api.OK {
		if !equal(p, Pack{}) {
			t.Fatalf("Of(%+v, %d): %+v beside %d", r, cut, p, e)
		}
		return
	}
	checkPack(t, p)
	r.Head = masked(r.Head)
	if back, e := Flat(p); e != api.OK || !equalRepairs(back, r) {
		t.Fatalf("%+v, cut at %d, came back as %+v %d", r, cut, back, e)
	}
}

// cuts are places in a body of so many bytes, and outside of it.
func cuts(n int) []int {
	return []int{math.MinInt, -2, -1, 0, 1, 2, n/2 - 1, n / 2, n - 1, n, n + 1, 1500, math.MaxInt}
}

func TestOf(t *testing.T) {
	masks := []mask.Mask{{}, mask.Of(0), mask.Of(0, 14), mask.Of(15), mask.Of(16), mask.Of(3, 16), mask.Of(47), mask.Of(48), mask.Of(0, 63), mask.Of(64), mask.Of(0, 127), mask.Full(16), mask.Full(48), mask.Full(128)}
	for _, m := range masks {
		// With one or two levels, long or not, 1500 bytes are passed at each of these.
		for _, n := range []int{0, 1, 2, 3, 40, 1474, 1475, 1482, 1483, 1486, 1487, 1500, 1501, 70000} {
			body := make([]byte, n)
			for i := range body {
				body[i] = byte(i % 251)
			}
			for _, cut := range cuts(n) {
				checkOf(t, api.Repair{Head: [8]byte{0xFF, 2, 3, 4, 5, 6, 7, 8}, Base: 65535, Hi: m.Hi, Lo: m.Lo, Body: body}, cut)
			}
		}
	}
}

func TestLevelsOfARepair(t *testing.T) {
	r := api.Repair{Head: [8]byte{1, 2, 3, 4, 5, 6, 7, 8}, Base: 5, Hi: 5 << 61, Body: []byte("abc")}
	for cut, want := range map[int][]string{-1: {"abc"}, 0: {"", "abc"}, 1: {"a", "bc"}, 2: {"ab", "c"}, 3: {"abc"}, 4: {"abc"}, math.MinInt: {"abc"}, math.MaxInt: {"abc"}} {
		p, e := Of(r, cut)
		if e != api.OK || p.Head != r.Head || p.Base != 5 || p.Long || len(p.Levels) != len(want) {
			t.Errorf("cut at %d: %+v %d", cut, p, e)
			continue
		}
		for i, level := range p.Levels {
			if level.Mask != mask.Of(0, 2) || string(level.Body) != want[i] {
				t.Errorf("cut at %d: %+v", cut, p)
			}
		}
	}
	// Nothing can be cut off no bytes.
	r.Body = nil
	for _, cut := range []int{-1, 0, 1} {
		if p, e := Of(r, cut); e != api.OK || len(p.Levels) != 1 || len(p.Levels[0].Body) != 0 {
			t.Errorf("no body, cut at %d: %+v %d", cut, p, e)
		}
	}
}

func randomBytes(random *rand.Rand, n int) []byte {
	b := make([]byte, n)
	random.Read(b)
	return b
}

func randomMask(random *rand.Rand, n int) mask.Mask {
	m := mask.Mask{Hi: random.Uint64(), Lo: random.Uint64()}
	if random.Intn(3) == 0 {
		m = m.And(mask.Mask{Hi: random.Uint64() & random.Uint64(), Lo: random.Uint64() & random.Uint64()})
	}
	return m.Cut(n)
}

func randomPack(random *rand.Rand) Pack {
	p := Pack{Base: uint16(random.Uint32()), Long: random.Intn(2) == 0}
	copy(p.Head[:], randomBytes(random, 8))
	for range 1 + random.Intn(2) {
		p.Levels = append(p.Levels, Level{randomMask(random, modelBits(p.Long)), randomBytes(random, random.Intn(40))})
	}
	p.Levels[0].Mask = p.Levels[0].Mask.With(random.Intn(16))
	if len(p.Levels) == 2 && random.Intn(2) == 0 {
		p.Levels[1].Mask = p.Levels[0].Mask
	}
	return p
}

// P9.2, P5: what is written is read back, and the other way round.
func TestWrittenIsParsedBack(t *testing.T) {
	random := rand.New(rand.NewSource(1))
	for range 3000 {
		p := randomPack(random)
		if b, e := Write(p); e != api.OK {
			t.Fatalf("Write(%+v): %x %d", p, b, e)
		}
		checkPack(t, p)
		checkBytes(t, model(t, p))
	}
}

// P9.1: packs that are mostly not valid.
func TestAnyPack(t *testing.T) {
	random := rand.New(rand.NewSource(2))
	for range 3000 {
		p := randomPack(random)
		for range random.Intn(3) {
			level := Level{randomMask(random, random.Intn(129)), randomBytes(random, random.Intn(1600))}
			p.Levels = append(p.Levels, level)
		}
		p.Levels = p.Levels[random.Intn(len(p.Levels)+1):]
		checkPack(t, p)
	}
}

// P9.2: the last sentence.
func TestFlatOfPackOfRepair(t *testing.T) {
	random := rand.New(rand.NewSource(3))
	for range 3000 {
		m := randomMask(random, []int{16, 17, 47, 48, 48, 49}[random.Intn(6)])
		r := api.Repair{Base: uint16(random.Uint32()), Hi: m.Hi, Lo: m.Lo, Body: randomBytes(random, random.Intn(60))}
		copy(r.Head[:], randomBytes(random, 8))
		checkOf(t, r, random.Intn(70)-5)
	}
}

func TestAnyBytes(t *testing.T) {
	random := rand.New(rand.NewSource(4))
	for range 20000 {
		b, _ := Write(randomPack(random))
		// Small counts, so that what is damaged is often a pack all the same.
		for range 1 + random.Intn(3) {
			b[random.Intn(len(b))] = byte(random.Intn(256) >> random.Intn(8))
		}
		checkBytes(t, b)
		checkBytes(t, b[:random.Intn(len(b)+1)])
		checkBytes(t, append(b, make([]byte, random.Intn(12))...))
		checkBytes(t, randomBytes(random, random.Intn(40)))
	}
}

// others are packs that differ from twoPack in one part each.
func others() map[string]Pack {
	list := map[string]Pack{}
	for name, change := range map[string]func(p *Pack){
		"Base":           func(p *Pack) { p.Base++ },
		"Long":           func(p *Pack) { p.Long = true },
		"fewer levels":   func(p *Pack) { p.Levels = p.Levels[:1] },
		"no levels":      func(p *Pack) { p.Levels = nil },
		"more levels":    func(p *Pack) { p.Levels = append(p.Levels, Level{}) },
		"levels swapped": func(p *Pack) { slices.Reverse(p.Levels) },
		"first mask":     func(p *Pack) { p.Levels[0].Mask.Hi++ },
		"second mask":    func(p *Pack) { p.Levels[1].Mask.Lo++ },
		"first body":     func(p *Pack) { p.Levels[0].Body[0]++ },
		"second body":    func(p *Pack) { p.Levels[1].Body[2]++ },
		"a longer body":  func(p *Pack) { p.Levels[1].Body = append(p.Levels[1].Body, 0) },
		"a body less":    func(p *Pack) { p.Levels[1].Body = nil },
		"bodies cut elsewhere": func(p *Pack) {
			p.Levels[0].Body, p.Levels[1].Body = []byte("abc"), []byte("de")
		},
	} {
		p := twoPack()
		change(&p)
		list[name] = p
	}
	for i := 2; i < 64; i++ {
		p := twoPack()
		p.Head[i/8] ^= 1 << (7 - i%8)
		list["bit "+strconv.Itoa(i)+" of Head"] = p
	}
	return list
}

func TestSame(t *testing.T) {
	p := twoPack()
	if !Same(p, twoPack()) || !Same(Pack{}, Pack{}) {
		t.Error("equal packs aren't the same")
	}
	for name, q := range others() {
		if Same(p, q) || Same(q, p) || !Same(q, q) {
			t.Errorf("%s: Same", name)
		}
	}
	for _, first := range []byte{0x01, 0x41, 0x81, 0xC1} {
		q := twoPack()
		q.Head[0] = first
		if !Same(p, q) || !Same(q, p) {
			t.Errorf("a first byte %x: not the same", first)
		}
	}
	if !Same(Pack{Levels: []Level{}}, Pack{}) || !Same(Pack{Levels: []Level{{Body: []byte{}}}}, Pack{Levels: []Level{{}}}) {
		t.Error("empty and nil aren't the same")
	}
}

func scribble(lists ...[]byte) {
	for _, b := range lists {
		b = b[:cap(b)]
		for i := range b {
			b[i] = 'x'
		}
	}
}

// scribblePack overwrites all memory that a pack has.
func scribblePack(p Pack) {
	levels := p.Levels[:cap(p.Levels)]
	for i := range levels {
		scribble(levels[i].Body)
		levels[i] = Level{mask.Full(9), []byte("y")}
	}
}

// checkPacksAreNew is given what makes the same pack of two levels from the memory all.
func checkPacksAreNew(t *testing.T, name string, all []byte, build func() Pack) {
	t.Helper()
	kept, want := bytes.Clone(all), copyOf(build())
	for i := range want.Levels {
		p := build()
		scribble(p.Levels[i].Body)
		if !bytes.Equal(all, kept) {
			t.Fatalf("%s: level %d shares memory with the argument: %q", name, i, all)
		}
		if !bytes.Equal(p.Levels[1-i].Body, want.Levels[1-i].Body) {
			t.Errorf("%s: the levels share memory: %+v", name, p)
		}
	}
	first, second := build(), build()
	scribblePack(first)
	if !equal(second, want) {
		t.Errorf("%s: two results share memory: %+v", name, second)
	}
	clear(all)
	if !equal(second, want) {
		t.Errorf("%s: the argument is retained: %+v", name, second)
	}
}

// P9.3: a pack has memory of its own, each part of it too.
func TestPacksAreNewMemory(t *testing.T) {
	all := []byte("<" + two + ">>>")
	checkPacksAreNew(t, "Parse", all, func() Pack {
		p, _ := Parse(all[1 : 1+len(two)])
		return p
	})
	body := []byte("<abcde>>>")
	checkPacksAreNew(t, "Of", body, func() Pack {
		p, _ := Of(api.Repair{Hi: 1 << 63, Body: body[1:6]}, 2)
		return p
	})
	body = []byte("<abcde>>>")
	p, _ := Of(api.Repair{Hi: 1 << 63, Body: body[1:6]}, -1)
	q, _ := Of(api.Repair{Hi: 1 << 63, Body: body[1:6]}, 5)
	scribblePack(p)
	if string(body) != "<abcde>>>" {
		t.Errorf("one level shares memory with the repair: %q", body)
	}
	clear(body)
	if string(q.Levels[0].Body) != "abcde" {
		t.Errorf("one level retains the repair: %+v", q)
	}
}

func TestBytesAreNewMemory(t *testing.T) {
	for name, of := range map[string]func(p Pack) []byte{
		"Write": func(p Pack) []byte { b, _ := Write(p); return b },
		"Flat":  func(p Pack) []byte { r, _ := Flat(p); return r.Body },
	} {
		for n := range 2 {
			p := twoPack()
			p.Levels[1].Mask = p.Levels[0].Mask
			p.Levels = p.Levels[:n+1]
			p.Levels[0].Body = append(p.Levels[0].Body, "spare"...)[:2]
			before, want := copyOf(p), bytes.Clone(of(p))
			first, second := of(p), of(p)
			scribble(first)
			if !equal(p, before) || string(p.Levels[0].Body[:7]) != "abspare" {
				t.Errorf("%s of %d levels shares memory with the pack: %+v", name, n+1, p)
			}
			scribblePack(p)
			if len(want) == 0 || !bytes.Equal(second, want) {
				t.Errorf("%s of %d levels retains the pack: %q", name, n+1, second)
			}
		}
	}
}
