package flex

import (
	"bytes"
	"math"
	"math/rand"
	"slices"
	"strconv"
	"strings"
	"testing"

	"conflux/api"
	"conflux/mask"
)

// header is that of a pack with a mask, and fixedHeader that of one without.
const (
	header      = "\x01\x82\x87\x88\x83\x84\x85\x86\x81\x92"
	fixedHeader = "\x7F\x82\x87\x88\x83\x84\x85\x86\x81\x92"
)

const (
	one   = header + "\xD0\x01" + "ab"
	two   = header + "\x50\x01" + "\xC0\x00\x00\x01" + "ab"
	three = header + "\x50\x01" + "\x40\x00\x00\x01" + "\xC0\x00\x00\x00\x00\x00\x00\x01" + "ab"
	fixed = fixedHeader + "\x03\xFE" + "ab"
)

func packOf(bits ...int) Pack {
	return Pack{Head: [8]byte{1, 0x82, 0x83, 0x84, 0x85, 0x86, 0x87, 0x88}, Base: 0x8192, Mask: mask.Of(bits...), Body: []byte("ab")}
}

func fixedPack() Pack {
	p := packOf()
	p.Head[0], p.Fixed, p.L, p.D = 0x3F, true, 3, 254
	return p
}

// examples are packs by their encodings.
func examples() map[string]Pack {
	return map[string]Pack{
		one:   packOf(0, 2, 14),
		two:   packOf(0, 2, 14, 15, 45),
		three: packOf(0, 2, 14, 15, 45, 46, 108),
		fixed: fixedPack(),
	}
}

// bits are the last digits of a number in base 2.
func bits(n uint64, size int) string {
	text := ""
	for i := size - 1; i >= 0; i-- {
		text += strconv.Itoa(int(n >> i & 1))
	}
	return text
}

func digit(on bool) string {
	if on {
		return "1"
	}
	return "0"
}

// pack is bytes, given bit by bit.
func pack(t *testing.T, text string) []byte {
	t.Helper()
	var b []byte
	for i := 0; i < len(text); i += 8 {
		n, err := strconv.ParseUint(text[i:i+8], 2, 8)
		if err != nil {
			t.Fatal(err)
		}
		b = append(b, byte(n))
	}
	return b
}

// digits is the bits of a mask from one up to another, as they are written.
func digits(m mask.Mask, from, to int) string {
	text := ""
	for i := from; i < to; i++ {
		text += digit(m.Has(i))
	}
	return text
}

// modelMask is the fewest parts that hold a mask.
func modelMask(m mask.Mask) string {
	switch {
	case digits(m, 15, 109) == strings.Repeat("0", 94):
		return "1" + digits(m, 0, 15)
	case digits(m, 46, 109) == strings.Repeat("0", 63):
		return "0" + digits(m, 0, 15) + "1" + digits(m, 15, 46)
	}
	return "0" + digits(m, 0, 15) + "0" + digits(m, 15, 46) + "1" + digits(m, 46, 109)
}

// model is the encoding of a valid pack, put together bit by bit as the document lists them.
func model(t *testing.T, p Pack) []byte {
	t.Helper()
	text := "0" + digit(p.Fixed)
	head := ""
	for _, i := range []int{0, 1, 6, 7, 2, 3, 4, 5} {
		head += bits(uint64(p.Head[i]), 8)
	}
	text += head[2:] + bits(uint64(p.Base), 16)
	if p.Fixed {
		text += bits(uint64(p.L), 8) + bits(uint64(p.D), 8)
	} else {
		text += modelMask(p.Mask)
	}
	return append(pack(t, text), p.Body...)
}

// parseFault is the error of Parse, worked out from where the parts would lie, and where the body would.
func parseFault(b []byte) (api.Errno, int) {
	switch {
	case len(b) > 1500:
		return api.ErrLong, 0
	case len(b) > 0 && b[0] >= 128:
		return api.ErrForm, 0
	case len(b) < 12:
		return api.ErrShort, 0
	case b[0] >= 64 && b[10] == 0:
		return api.ErrBits, 0
	case b[0] >= 64:
		return api.OK, 12
	}
	start, empty := 10, true
	for _, end := range []int{12, 16, 24} {
		if len(b) < end {
			return api.ErrShort, 0
		}
		last := b[start] >= 128
		for i, x := range b[start:end] {
			if i == 0 {
				x %= 128
			}
			empty = empty && x == 0
		}
		start = end
		if last && empty {
			return api.ErrBits, 0
		}
		if last {
			return api.OK, end
		}
	}
	return api.ErrForm, 0
}

// writeFault is the error of Write, by the document's definition of a valid pack.
func writeFault(t *testing.T, p Pack) api.Errno {
	t.Helper()
	if p.Fixed && (p.L < 1 || p.L > 255 || p.D < 0 || p.D > 255) || !p.Fixed && (p.L != 0 || p.D != 0) {
		return api.ErrArg
	}
	if p.Fixed && p.Mask.Count() > 0 || !p.Fixed && p.Mask.Count() == 0 {
		return api.ErrBits
	}
	for i := 109; i < 128; i++ {
		if p.Mask.Has(i) {
			return api.ErrBits
		}
	}
	if len(model(t, p)) > 1500 {
		return api.ErrLong
	}
	return api.OK
}

// equal tells whether all of two packs is the same, Head as a whole.
func equal(a, b Pack) bool {
	return a.Head == b.Head && a.Base == b.Base && a.Mask == b.Mask && a.Fixed == b.Fixed && a.L == b.L && a.D == b.D && bytes.Equal(a.Body, b.Body)
}

func equalRepairs(a, b api.Repair) bool {
	return a.Head == b.Head && a.Base == b.Base && a.Hi == b.Hi && a.Lo == b.Lo && bytes.Equal(a.Body, b.Body)
}

// masked is a head without its first two bits.
func masked(head [8]byte) [8]byte {
	head[0] %= 64
	return head
}

// checkBytes holds what is parsed from bytes against the document.
func checkBytes(t *testing.T, b []byte) {
	t.Helper()
	before := bytes.Clone(b)
	p, e := Parse(b)
	want, body := parseFault(b)
	if e != want {
		t.Fatalf("Parse(%x): %d, want %d", b, e, want)
	}
	if !bytes.Equal(b, before) {
		t.Fatalf("Parse changes %x to %x", before, b)
	}
	if e != api.OK {
		if !equal(p, Pack{}) {
			t.Fatalf("Parse(%x): %+v beside %d", b, p, e)
		}
		return
	}
	if writeFault(t, p) != api.OK || p.Head != masked(p.Head) || !bytes.Equal(p.Body, b[body:]) {
		t.Fatalf("Parse(%x): %+v", b, p)
	}
	again, e := Write(p)
	if e != api.OK || !bytes.Equal(again, model(t, p)) || len(again) > len(b) {
		t.Fatalf("%x is written as %x %d", b, again, e)
	}
	// But for parts that aren't needed, the bytes are the same.
	if !bytes.Equal(again[:10], b[:10]) || len(again) == len(b) && !bytes.Equal(again, b) {
		t.Fatalf("%x is written as %x", b, again)
	}
	if q, e := Parse(again); e != api.OK || !equal(q, p) {
		t.Fatalf("%x, written as %x, is parsed back as %+v %d", b, again, q, e)
	}
}

// checkPack holds what is made of a pack against the document.
func checkPack(t *testing.T, p Pack) {
	t.Helper()
	before := bytes.Clone(p.Body)
	b, e := Write(p)
	want := writeFault(t, p)
	if e != want {
		t.Fatalf("Write(%+v): %d, want %d", p, e, want)
	}
	checkFlat(t, p, want)
	if !bytes.Equal(p.Body, before) {
		t.Fatalf("the body %x became %x", before, p.Body)
	}
	if e != api.OK {
		if len(b) != 0 {
			t.Fatalf("Write(%+v): %x beside %d", p, b, e)
		}
		return
	}
	if !bytes.Equal(b, model(t, p)) {
		t.Fatalf("Write(%+v): %x", p, b)
	}
	plain := p
	plain.Head = masked(p.Head)
	if got, e := Parse(b); e != api.OK || !equal(got, plain) || !Same(got, p) {
		t.Fatalf("%+v is parsed back as %+v %d", p, got, e)
	}
}

// checkFlat holds Flat against the document: want is the error of Write.
func checkFlat(t *testing.T, p Pack, want api.Errno) {
	t.Helper()
	r, e := Flat(p)
	if want == api.OK && p.Fixed {
		want = api.ErrBits
	}
	var repair api.Repair
	if want == api.OK {
		repair = api.Repair{Head: masked(p.Head), Base: p.Base, Hi: p.Mask.Hi, Lo: p.Mask.Lo, Body: p.Body}
	}
	if e != want || !equalRepairs(r, repair) {
		t.Fatalf("Flat(%+v): %+v %d, want %+v %d", p, r, e, repair, want)
	}
}

func TestExample(t *testing.T) {
	p := Pack{Base: 5, Mask: mask.Of(0, 2)}
	const text = "\x00\x00\x00\x00\x00\x00\x00\x00\x00\x05\xD0\x00"
	if b, e := Write(p); e != api.OK || string(b) != text {
		t.Errorf("%x %d", b, e)
	}
	if got, e := Parse([]byte(text)); e != api.OK || !equal(got, p) {
		t.Errorf("%+v %d", got, e)
	}
}

func TestAllParts(t *testing.T) {
	for text, p := range examples() {
		if b, e := Write(p); e != api.OK || string(b) != text {
			t.Errorf("Write(%+v): %x %d", p, b, e)
		}
		if got, e := Parse([]byte(text)); e != api.OK || !equal(got, p) {
			t.Errorf("Parse(%x): %+v %d", text, got, e)
		}
		checkPack(t, p)
		checkBytes(t, []byte(text))
	}
}

// All values of the first two bytes, with so many bytes behind them.
func TestFirstBytes(t *testing.T) {
	for i := range 1 << 16 {
		for text := range examples() {
			b := append([]byte{byte(i >> 8), byte(i)}, text[2:]...)
			for _, n := range []int{0, 1, 2, 11, 12, 14, len(text)} {
				if _, e := Parse(b[:n]); e != errorOf(b[:n]) {
					t.Fatalf("Parse(%x): %d", b[:n], e)
				}
			}
			p, e := Parse(b)
			if e == api.OK && (p.Fixed != (b[0] >= 64) || p.Head[0] != b[0]%64 || p.Head[1] != b[1]) {
				t.Fatalf("Parse(%x): %+v", b, p)
			}
		}
	}
}

func errorOf(b []byte) api.Errno {
	e, _ := parseFault(b)
	return e
}

// Only the header and the mask can be cut off: a shorter body is another pack.
func TestEveryLength(t *testing.T) {
	for text := range examples() {
		for n := range len(text) + 1 {
			want := api.ErrShort
			if n >= len(text)-2 {
				want = api.OK
			}
			p, e := Parse([]byte(text[:n]))
			if e != want || e == api.OK && string(p.Body) != text[len(text)-2:n] {
				t.Errorf("%d bytes of %x: %+v %d", n, text, p, e)
			}
			checkBytes(t, []byte(text[:n]))
		}
	}
}

func TestOrderOfParseErrors(t *testing.T) {
	const none, last = "\x00\x00", "\x80\x00"
	const none2, last2 = "\x00\x00\x00\x00", "\x80\x00\x00\x00"
	const none3, last3 = none2 + none2, last2 + none2
	zeros := func(first string, n int) string { return first + strings.Repeat("\x00", n-len(first)) }
	for _, c := range []struct {
		name, b string
		e       api.Errno
	}{
		{"too long, with a wrong first bit", zeros("\x80", 1501), api.ErrLong},
		{"too long, with L 0", zeros("\x40", 1501), api.ErrLong},
		{"too long by a byte", zeros(one, 1501), api.ErrLong},
		{"as long as may be", zeros(one, 1500), api.OK},
		{"as long as may be, of three parts", zeros(three, 1500), api.OK},
		{"as long as may be, fixed", zeros(fixed, 1500), api.OK},
		{"as long as may be, with a wrong first bit", zeros("\xC0", 1500), api.ErrForm},
		{"no bytes", "", api.ErrShort},
		{"a wrong first bit alone", "\x80", api.ErrForm},
		{"all of the first bits alone", "\xFF", api.ErrForm},
		{"a wrong first bit, complete", "\x81" + one[1:], api.ErrForm},
		{"a wrong first bit, with L 0", "\xC1" + header[1:] + none, api.ErrForm},
		{"a byte", "\x7F", api.ErrShort},
		{"a header", header, api.ErrShort},
		{"a header and a byte", header + "\xFF", api.ErrShort},
		{"a header and a byte, which isn't the last part", header + "\x00", api.ErrShort},
		{"L 0 without D", fixedHeader + "\x00", api.ErrShort},
		{"L without D", fixedHeader + "\x05", api.ErrShort},
		{"L 0", fixedHeader + "\x00\x05", api.ErrBits},
		{"L 0, with a body", fixedHeader + "\x00\x05abcdefghijkl", api.ErrBits},
		{"L 0 and D 0", fixedHeader + none, api.ErrBits},
		{"D 0", fixedHeader + "\x01\x00", api.OK},
		{"the greatest L and D", fixedHeader + "\xFF\xFF", api.OK},
		{"one part, empty", header + last, api.ErrBits},
		{"one part, empty, with a body", header + last + "abcdefghijkl", api.ErrBits},
		{"one part, bit 14", header + "\x80\x01", api.OK},
		{"no second part", header + none, api.ErrShort},
		{"no second part behind bits", header + "\x7F\xFF", api.ErrShort},
		{"a second part that is cut off", header + "\x7F\xFF" + last2[:3], api.ErrShort},
		{"two parts, empty", header + none + last2, api.ErrBits},
		{"two parts, bit 14", header + "\x00\x01" + last2, api.OK},
		{"two parts, bit 15", header + none + "\xC0\x00\x00\x00", api.OK},
		{"no third part", header + none + none2, api.ErrShort},
		{"a third part that is cut off", header + "\x7F\xFF" + "\x7F\xFF\xFF\xFF" + last3[:7], api.ErrShort},
		{"three parts, empty", header + none + none2 + last3, api.ErrBits},
		{"three parts, bit 0", header + "\x40\x00" + none2 + last3, api.OK},
		{"three parts, bit 45", header + none + "\x00\x00\x00\x01" + last3, api.OK},
		{"three parts, bit 46", header + none + none2 + "\xC0\x00\x00\x00" + none2, api.OK},
		{"three parts, bit 108", header + none + none2 + "\x80\x00\x00\x00" + "\x00\x00\x00\x01", api.OK},
		{"a third part that isn't the last one", header + "\x7F\xFF" + "\x7F\xFF\xFF\xFF" + "\x7F" + last3[1:], api.ErrForm},
		{"a third part that isn't the last one, with another one", header + "\x7F\xFF" + none2 + none3 + last3 + last3, api.ErrForm},
		{"three parts that aren't the last one, empty", header + none + none2 + none3, api.ErrForm},
	} {
		if _, e := Parse([]byte(c.b)); e != c.e {
			t.Errorf("%s: %d, want %d", c.name, e, c.e)
		}
		checkBytes(t, []byte(c.b))
	}
}

func TestOrderOfWriteErrors(t *testing.T) {
	body := func(n int) []byte { return make([]byte, n) }
	for _, c := range []struct {
		name string
		p    Pack
		e    api.Errno
	}{
		{"the zero value", Pack{}, api.ErrBits},
		{"a mask", Pack{Mask: mask.Of(0)}, api.OK},
		{"bit 108", Pack{Mask: mask.Of(108)}, api.OK},
		{"bit 109", Pack{Mask: mask.Of(109)}, api.ErrBits},
		{"bit 109 beside others", Pack{Mask: mask.Of(0, 109)}, api.ErrBits},
		{"bit 127", Pack{Mask: mask.Of(127)}, api.ErrBits},
		{"all bits", Pack{Mask: mask.Full(128)}, api.ErrBits},
		{"as many bits as may be", Pack{Mask: mask.Full(109)}, api.OK},
		{"L with a mask", Pack{Mask: mask.Of(0), L: 1}, api.ErrArg},
		{"D with a mask", Pack{Mask: mask.Of(0), D: 1}, api.ErrArg},
		{"L -1 with a mask", Pack{Mask: mask.Of(0), L: -1}, api.ErrArg},
		{"D -1 with a mask", Pack{Mask: mask.Of(0), D: -1}, api.ErrArg},
		{"L and D without Fixed", Pack{L: 3, D: 4}, api.ErrArg},
		{"fixed, without L and D", Pack{Fixed: true}, api.ErrArg},
		{"fixed, without L", Pack{Fixed: true, D: 5}, api.ErrArg},
		{"L 1", Pack{Fixed: true, L: 1}, api.OK},
		{"L 255", Pack{Fixed: true, L: 255}, api.OK},
		{"L 256", Pack{Fixed: true, L: 256}, api.ErrArg},
		{"L 257", Pack{Fixed: true, L: 257}, api.ErrArg},
		{"L -1", Pack{Fixed: true, L: -1}, api.ErrArg},
		{"L -255", Pack{Fixed: true, L: -255}, api.ErrArg},
		{"the least L", Pack{Fixed: true, L: math.MinInt}, api.ErrArg},
		{"the greatest L", Pack{Fixed: true, L: math.MaxInt}, api.ErrArg},
		{"D 255", Pack{Fixed: true, L: 255, D: 255}, api.OK},
		{"D 256", Pack{Fixed: true, L: 255, D: 256}, api.ErrArg},
		{"D -1", Pack{Fixed: true, L: 255, D: -1}, api.ErrArg},
		{"the least D", Pack{Fixed: true, L: 1, D: math.MinInt}, api.ErrArg},
		{"the greatest D", Pack{Fixed: true, L: 1, D: math.MaxInt}, api.ErrArg},
		{"fixed, with a mask", Pack{Fixed: true, L: 1, Mask: mask.Of(0)}, api.ErrBits},
		{"fixed, with a mask that isn't valid", Pack{Fixed: true, L: 1, Mask: mask.Of(127)}, api.ErrBits},
		{"1500 bytes", Pack{Mask: mask.Of(14), Body: body(1488)}, api.OK},
		{"1501 bytes", Pack{Mask: mask.Of(14), Body: body(1489)}, api.ErrLong},
		{"1500 bytes, two parts", Pack{Mask: mask.Of(15), Body: body(1484)}, api.OK},
		{"1501 bytes, two parts", Pack{Mask: mask.Of(45), Body: body(1485)}, api.ErrLong},
		{"1500 bytes, three parts", Pack{Mask: mask.Of(46), Body: body(1476)}, api.OK},
		{"1501 bytes, three parts", Pack{Mask: mask.Of(46), Body: body(1477)}, api.ErrLong},
		{"1500 bytes, fixed", Pack{Fixed: true, L: 1, Body: body(1488)}, api.OK},
		{"1501 bytes, fixed", Pack{Fixed: true, L: 1, Body: body(1489)}, api.ErrLong},
		{"a long body", Pack{Mask: mask.Of(0), Body: body(100000)}, api.ErrLong},
		{"L, mask and length", Pack{L: 1, Mask: mask.Of(109), Body: body(1501)}, api.ErrArg},
		{"D, no mask and length", Pack{D: 1, Body: body(1501)}, api.ErrArg},
		{"fixed, D, mask and length", Pack{Fixed: true, L: 1, D: 256, Mask: mask.Of(0), Body: body(1501)}, api.ErrArg},
		{"no mask and length", Pack{Body: body(1501)}, api.ErrBits},
		{"mask and length", Pack{Mask: mask.Of(109), Body: body(1501)}, api.ErrBits},
		{"fixed, mask and length", Pack{Fixed: true, L: 1, Mask: mask.Of(0), Body: body(1501)}, api.ErrBits},
	} {
		if _, e := Write(c.p); e != c.e {
			t.Errorf("%s: %d, want %d", c.name, e, c.e)
		}
		checkPack(t, c.p)
	}
}

// Each bit by itself, and as the last one of several.
func TestEachBit(t *testing.T) {
	for i := range 128 {
		for _, m := range []mask.Mask{mask.Of(i), mask.Of(0, i), mask.Full(i + 1)} {
			p := packOf()
			p.Mask = m
			checkPack(t, p)
			b, e := Write(p)
			want := 26
			if i < 46 {
				want = 18
			}
			if i < 15 {
				want = 14
			}
			if i < 109 && (e != api.OK || len(b) != want) || i >= 109 && e != api.ErrBits {
				t.Errorf("the mask %s: %d bytes, %d", m.Text(), len(b), e)
			}
		}
	}
}

// P10.2: parts that a mask doesn't need are read, but not written.
func TestMorePartsThanNeeded(t *testing.T) {
	for _, c := range []struct {
		long, short string
		bits        []int
	}{
		{"\x50\x00" + "\x80\x00\x00\x00", "\xD0\x00", []int{0, 2}},
		{"\x00\x01" + "\x00\x00\x00\x00" + "\x80\x00\x00\x00\x00\x00\x00\x00", "\x80\x01", []int{14}},
		{"\x00\x01" + "\x00\x00\x00\x01" + "\x80\x00\x00\x00\x00\x00\x00\x00", "\x00\x01" + "\x80\x00\x00\x01", []int{14, 45}},
	} {
		p, e := Parse([]byte(header + c.long + "ab"))
		if e != api.OK || !equal(p, packOf(c.bits...)) {
			t.Errorf("%x: %+v %d", c.long, p, e)
		}
		if b, e := Write(p); e != api.OK || string(b) != header+c.short+"ab" {
			t.Errorf("%x is written as %x %d", c.long, b, e)
		}
		checkBytes(t, []byte(header+c.long+"ab"))
	}
}

// All values of L and D, as far as they are valid and some beyond.
func TestFixed(t *testing.T) {
	for l := -2; l <= 258; l++ {
		for d := -2; d <= 258; d++ {
			p := fixedPack()
			p.L, p.D = l, d
			b, e := Write(p)
			if l < 1 || l > 255 || d < 0 || d > 255 {
				if e != api.ErrArg || len(b) != 0 {
					t.Fatalf("L %d, D %d: %x %d", l, d, b, e)
				}
				continue
			}
			if e != api.OK || string(b) != fixedHeader+string([]byte{byte(l), byte(d)})+"ab" {
				t.Fatalf("L %d, D %d: %x %d", l, d, b, e)
			}
			if got, e := Parse(b); e != api.OK || !equal(got, p) {
				t.Fatalf("L %d, D %d: parsed back as %+v %d", l, d, got, e)
			}
		}
	}
}

func TestFlat(t *testing.T) {
	p := packOf(0, 2, 108)
	p.Head[0] = 0xC1
	want := api.Repair{Head: packOf().Head, Base: 0x8192, Hi: 5 << 61, Lo: 1 << 19, Body: []byte("ab")}
	if r, e := Flat(p); e != api.OK || !equalRepairs(r, want) {
		t.Errorf("%+v %d", r, e)
	}
	if r, e := Flat(fixedPack()); e != api.ErrBits || !equalRepairs(r, api.Repair{}) {
		t.Errorf("fixed: %+v %d", r, e)
	}
	// Fixed doesn't matter where the pack isn't valid for another reason.
	q := fixedPack()
	q.Body = make([]byte, 1489)
	if _, e := Flat(q); e != api.ErrLong {
		t.Errorf("too long: %d", e)
	}
	q.L = 256
	if _, e := Flat(q); e != api.ErrArg {
		t.Errorf("L 256: %d", e)
	}
}

// checkOf holds the pack of a repair, and the repair of that pack, against the document.
func checkOf(t *testing.T, r api.Repair) {
	t.Helper()
	before := bytes.Clone(r.Body)
	want := Pack{Head: r.Head, Base: r.Base, Mask: mask.Mask{Hi: r.Hi, Lo: r.Lo}, Body: r.Body}
	fault := writeFault(t, want)
	p, e := Of(r)
	if !bytes.Equal(r.Body, before) {
		t.Fatalf("Of changes %x to %x", before, r.Body)
	}
	if fault != api.OK {
		if e != fault || !equal(p, Pack{}) {
			t.Fatalf("Of(%+v): %+v %d, want %d", r, p, e, fault)
		}
		return
	}
	if e != api.OK || !Same(p, want) {
		t.Fatalf("Of(%+v): %+v %d", r, p, e)
	}
	checkPack(t, p)
	r.Head = masked(r.Head)
	if back, e := Flat(p); e != api.OK || !equalRepairs(back, r) {
		t.Fatalf("%+v came back as %+v %d", r, back, e)
	}
}

func TestOf(t *testing.T) {
	masks := []mask.Mask{{}, mask.Of(0), mask.Of(0, 14), mask.Of(15), mask.Of(3, 45), mask.Of(46), mask.Of(63), mask.Of(0, 64), mask.Of(108), mask.Of(109), mask.Of(0, 127), mask.Full(109), mask.Full(128)}
	for _, m := range masks {
		// With one to three parts, 1500 bytes are passed at each of these.
		for _, n := range []int{0, 1, 2, 40, 1476, 1477, 1484, 1485, 1488, 1489, 1500, 1501, 70000} {
			checkOf(t, api.Repair{Head: [8]byte{0xFF, 2, 3, 4, 5, 6, 7, 8}, Base: 65535, Hi: m.Hi, Lo: m.Lo, Body: bytes.Repeat([]byte("abc"), n)[:n]})
		}
	}
	p, e := Of(api.Repair{Head: packOf().Head, Base: 0x8192, Hi: 5 << 61, Lo: 1 << 19, Body: []byte("ab")})
	if e != api.OK || !equal(p, packOf(0, 2, 108)) {
		t.Errorf("%+v %d", p, e)
	}
}

// modelGrid is the numbers of Grid, each by itself.
func modelGrid(base, l, d int) []uint16 {
	var list []uint16
	if l < 1 || l > 255 || d < 0 || d > 255 {
		return nil
	}
	if d <= 1 {
		for n := base; n < base+l; n++ {
			list = append(list, uint16(n%65536))
		}
		return list
	}
	for n := base; len(list) < d; n += l {
		list = append(list, uint16(n%65536))
	}
	return list
}

func TestGrid(t *testing.T) {
	for _, c := range []struct {
		base uint16
		l, d int
		want []uint16
	}{
		{5, 4, 0, []uint16{5, 6, 7, 8}},
		{5, 4, 1, []uint16{5, 6, 7, 8}},
		{5, 4, 2, []uint16{5, 9}},
		{65535, 2, 3, []uint16{65535, 1, 3}},
		{65534, 4, 0, []uint16{65534, 65535, 0, 1}},
		{5, 1, 0, []uint16{5}},
		{5, 1, 1, []uint16{5}},
		{5, 1, 3, []uint16{5, 6, 7}},
		{5, 0, 1, nil}, {5, 0, 3, nil}, {5, -1, 1, nil}, {5, 256, 1, nil}, {5, 257, 3, nil},
		{5, 1, -1, nil}, {5, 1, 256, nil}, {5, 0, 0, nil}, {5, 3, 257, nil},
		{5, math.MinInt, 1, nil}, {5, math.MaxInt, 1, nil}, {5, 1, math.MinInt, nil}, {5, 1, math.MaxInt, nil},
	} {
		if got := Grid(c.base, c.l, c.d); !slices.Equal(got, c.want) {
			t.Errorf("Grid(%d, %d, %d) = %v, want %v", c.base, c.l, c.d, got, c.want)
		}
	}
	for l := -2; l <= 258; l++ {
		for d := -2; d <= 258; d++ {
			base := uint16(l*251 + d*4093)
			if got, want := Grid(base, l, d), modelGrid(int(base), l, d); !slices.Equal(got, want) {
				t.Fatalf("Grid(%d, %d, %d) = %v, want %v", base, l, d, got, want)
			}
		}
	}
}

func randomBytes(random *rand.Rand, n int) []byte {
	b := make([]byte, n)
	random.Read(b)
	return b
}

// randomMask is bits up to a random place, few or many.
func randomMask(random *rand.Rand, most int) mask.Mask {
	m := mask.Mask{Hi: random.Uint64(), Lo: random.Uint64()}
	if random.Intn(2) == 0 {
		m = m.And(mask.Mask{Hi: random.Uint64() & random.Uint64(), Lo: random.Uint64() & random.Uint64()})
	}
	return m.Cut(random.Intn(most + 1))
}

func randomPack(random *rand.Rand) Pack {
	p := Pack{Base: uint16(random.Uint32()), Body: randomBytes(random, random.Intn(40))}
	copy(p.Head[:], randomBytes(random, 8))
	if random.Intn(3) == 0 {
		p.Fixed, p.L, p.D = true, 1+random.Intn(255), random.Intn(256)
	} else {
		p.Mask = randomMask(random, 109).With(random.Intn(109) >> random.Intn(8))
	}
	return p
}

// P10.2, P5: what is written is read back, and the other way round.
func TestWrittenIsParsedBack(t *testing.T) {
	random := rand.New(rand.NewSource(1))
	for range 3000 {
		p := randomPack(random)
		if b, e := Write(p); e != api.OK {
			t.Fatalf("Write(%+v): %x %d", p, b, e)
		}
		checkPack(t, p)
		checkBytes(t, model(t, p))
	}
}

// P10.1: packs that are mostly not valid.
func TestAnyPack(t *testing.T) {
	random := rand.New(rand.NewSource(2))
	for range 5000 {
		p := randomPack(random)
		for range 1 + random.Intn(3) {
			switch random.Intn(5) {
			case 0:
				p.Fixed = !p.Fixed
			case 1:
				p.L = random.Intn(260) - 2
			case 2:
				p.D = random.Intn(260) - 2
			case 3:
				p.Mask = randomMask(random, 128)
			case 4:
				p.Body = randomBytes(random, 1470+random.Intn(40))
			}
		}
		checkPack(t, p)
	}
}

// P10.2: the last sentence.
func TestFlatOfPackOfRepair(t *testing.T) {
	random := rand.New(rand.NewSource(3))
	for range 3000 {
		m := randomMask(random, 112)
		r := api.Repair{Base: uint16(random.Uint32()), Hi: m.Hi, Lo: m.Lo, Body: randomBytes(random, random.Intn(60))}
		copy(r.Head[:], randomBytes(random, 8))
		checkOf(t, r)
	}
}

func TestAnyBytes(t *testing.T) {
	random := rand.New(rand.NewSource(4))
	for range 20000 {
		b, _ := Write(randomPack(random))
		// Mostly in the mask, with few bits, so that parts end elsewhere.
		for range 1 + random.Intn(3) {
			b[random.Intn(min(len(b), 24))] = byte(random.Intn(256) >> random.Intn(8))
		}
		b[10] ^= byte(random.Intn(2) << 7)
		checkBytes(t, b)
		checkBytes(t, b[:random.Intn(len(b)+1)])
		checkBytes(t, append(b[:12:12], make([]byte, random.Intn(14))...))
		checkBytes(t, randomBytes(random, random.Intn(40)))
	}
}

// others are packs that differ from packOf(0, 2) in one part each.
func others() map[string]Pack {
	list := map[string]Pack{}
	for name, change := range map[string]func(p *Pack){
		"Base":         func(p *Pack) { p.Base++ },
		"Mask, Hi":     func(p *Pack) { p.Mask.Hi++ },
		"Mask, Lo":     func(p *Pack) { p.Mask.Lo++ },
		"Fixed":        func(p *Pack) { p.Fixed = true },
		"L":            func(p *Pack) { p.L = 256 },
		"D":            func(p *Pack) { p.D = 256 },
		"Body":         func(p *Pack) { p.Body[1]++ },
		"Body, longer": func(p *Pack) { p.Body = append(p.Body, 0) },
		"Body, none":   func(p *Pack) { p.Body = nil },
	} {
		p := packOf(0, 2)
		change(&p)
		list[name] = p
	}
	for i := 2; i < 64; i++ {
		p := packOf(0, 2)
		p.Head[i/8] ^= 1 << (7 - i%8)
		list["bit "+strconv.Itoa(i)+" of Head"] = p
	}
	return list
}

func TestSame(t *testing.T) {
	p := packOf(0, 2)
	if !Same(p, packOf(0, 2)) || !Same(fixedPack(), fixedPack()) || !Same(Pack{}, Pack{}) {
		t.Error("equal packs aren't the same")
	}
	for name, q := range others() {
		if Same(p, q) || Same(q, p) || !Same(q, q) {
			t.Errorf("%s: Same", name)
		}
	}
	for _, first := range []byte{0x01, 0x41, 0x81, 0xC1} {
		q := packOf(0, 2)
		q.Head[0] = first
		if !Same(p, q) || !Same(q, p) {
			t.Errorf("a first byte %x: not the same", first)
		}
	}
	if !Same(Pack{Body: []byte{}}, Pack{}) || !Same(Pack{}, Pack{Body: []byte{}}) {
		t.Error("empty and nil aren't the same")
	}
}

func scribble(b []byte) {
	b = b[:cap(b)]
	for i := range b {
		b[i] = 'x'
	}
}

// checkNew is given what makes the same bytes, which end with "ab", from the memory all.
func checkNew(t *testing.T, name string, all []byte, build func() []byte) {
	t.Helper()
	kept, want := bytes.Clone(all), bytes.Clone(build())
	first, second := build(), build()
	scribble(first)
	if !bytes.Equal(all, kept) {
		t.Errorf("%s: the result shares memory with the argument: %q", name, all)
	}
	scribble(all)
	if !bytes.HasSuffix(want, []byte("ab")) || !bytes.Equal(second, want) {
		t.Errorf("%s: %q, then %q", name, want, second)
	}
}

// P10.3: bytes that come out are new memory, with what lies behind their length.
func TestResultsAreNewMemory(t *testing.T) {
	for text := range examples() {
		all := []byte("<" + text + ">>>")
		checkNew(t, "Parse", all, func() []byte { p, _ := Parse(all[1 : 1+len(text)]); return p.Body })
	}
	all := []byte("<ab>>>")
	given, grid := packOf(0, 2), fixedPack()
	for name, build := range map[string]func() []byte{
		"Write":        func() []byte { given.Body = all[1:3]; b, _ := Write(given); return b },
		"Write, fixed": func() []byte { grid.Body = all[1:3]; b, _ := Write(grid); return b },
		"Flat":         func() []byte { given.Body = all[1:3]; r, _ := Flat(given); return r.Body },
		"Of":           func() []byte { p, _ := Of(api.Repair{Hi: 1 << 63, Body: all[1:3]}); return p.Body },
	} {
		copy(all, "<ab>>>")
		checkNew(t, name, all, build)
	}
	// Numbers too.
	a, b := Grid(5, 3, 0), Grid(5, 3, 0)
	clear(a[:cap(a)])
	if !slices.Equal(b, []uint16{5, 6, 7}) {
		t.Errorf("two grids share memory: %v", b)
	}
}
