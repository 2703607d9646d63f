package imprint

import (
	"bytes"
	"iter"
	"math/rand"
	"slices"
	"strings"
	"testing"

	"conflux/api"
	"conflux/rtp"
)

const small = "\x80\x60\x00\x01\x00\x00\x00\x02\x00\x00\x00\x03A"

// full has all parts: two CSRC identifiers, a word of extension, a payload and three bytes of padding.
const (
	fullBody = "\x00\x00\x00\x09\xFF\xFE\xFD\xFC" + "\xBE\xDE\x00\x01wxyz" + "hi" + "\x07\x08\x03"
	full     = "\xB2\xE0\x81\x92\xA3\xB4\xC5\xD6\xE7\xF8\x09\x1A" + fullBody
)

// model is the imprint of a packet, by its definition.
func model(b []byte) Bits {
	n := len(b) - 12
	return Bits{
		Head: [8]byte{b[0] % 64, b[1], b[4], b[5], b[6], b[7], byte(n / 256), byte(n % 256)},
		Body: b[12:],
	}
}

// equal tells whether all of two imprints is the same, with the zeros at the end.
func equal(x, y Bits) bool { return x.Head == y.Head && bytes.Equal(x.Body, y.Body) }

func clone(x Bits) Bits { return Bits{Head: x.Head, Body: bytes.Clone(x.Body)} }

// modelPacket is Packet by the document.
func modelPacket(x Bits, seq uint16, ssrc uint32) ([]byte, api.Errno) {
	n := int(x.Head[6])*256 + int(x.Head[7])
	if n > len(x.Body) || n > 1488 {
		return nil, api.ErrWrong
	}
	b := []byte{128 + x.Head[0]%64, x.Head[1], byte(seq / 256), byte(seq % 256)}
	b = append(b, x.Head[2:6]...)
	b = append(b, byte(ssrc>>24), byte(ssrc>>16), byte(ssrc>>8), byte(ssrc))
	b = append(b, x.Body[:n]...)
	if _, e := rtp.Parse(b); e != api.OK {
		return nil, api.ErrWrong
	}
	return b, api.OK
}

// modelSum is the XOR of imprints, byte by byte.
func modelSum(xs ...Bits) Bits {
	var sum Bits
	for _, x := range xs {
		for i := range 8 {
			sum.Head[i] ^= x.Head[i]
		}
		for i, b := range x.Body {
			if i == len(sum.Body) {
				sum.Body = append(sum.Body, 0)
			}
			sum.Body[i] ^= b
		}
	}
	return sum
}

// checkOf holds the imprint of bytes, and the packet of it, against the document.
func checkOf(t *testing.T, b []byte) {
	t.Helper()
	before := bytes.Clone(b)
	x, e := Of(b)
	_, want := rtp.Parse(b)
	if e != want {
		t.Fatalf("Of(%x): %d, want %d", b, e, want)
	}
	if !bytes.Equal(b, before) {
		t.Fatalf("Of changes %x to %x", before, b)
	}
	if e != api.OK {
		if !equal(x, Bits{}) {
			t.Fatalf("Of(%x): %+v beside %d", b, x, e)
		}
		return
	}
	if !equal(x, model(b)) || Length(x) != len(b)-12 {
		t.Fatalf("Of(%x): %+v", b, x)
	}
	seq, _ := rtp.Seq(b)
	ssrc, _ := rtp.SSRC(b)
	for _, more := range []string{"", "\x00", "\xFF", "\x00\x00z", strings.Repeat("y", 2000)} {
		long := Bits{Head: x.Head, Body: append(bytes.Clone(x.Body), more...)}
		if again, e := Packet(long, seq, ssrc); e != api.OK || !bytes.Equal(again, b) {
			t.Fatalf("%x came back as %x %d, with %d bytes appended", b, again, e, len(more))
		}
	}
}

// checkPacket holds the packet of an imprint against the document.
func checkPacket(t *testing.T, x Bits, seq uint16, ssrc uint32) {
	t.Helper()
	before := clone(x)
	b, e := Packet(x, seq, ssrc)
	want, wantE := modelPacket(x, seq, ssrc)
	if e != wantE || !bytes.Equal(b, want) {
		t.Fatalf("Packet(%+v, %d, %d): %x %d, want %x %d", x, seq, ssrc, b, e, want, wantE)
	}
	if !equal(x, before) {
		t.Fatalf("Packet changes %+v to %+v", before, x)
	}
}

func randomBytes(random *rand.Rand, n int) []byte {
	b := make([]byte, n)
	random.Read(b)
	return b
}

// randomPacket is the encoding of a packet, which often has all parts.
func randomPacket(t *testing.T, random *rand.Rand) []byte {
	t.Helper()
	p := api.Packet{
		Marker: random.Intn(2) == 0, PT: random.Intn(128), Seq: uint16(random.Uint32()), TS: random.Uint32(),
		SSRC: random.Uint32(), Payload: randomBytes(random, random.Intn(40)),
	}
	for range random.Intn(4) {
		p.CSRC = append(p.CSRC, random.Uint32())
	}
	if random.Intn(2) == 0 {
		p.HasExt, p.Profile, p.Ext = true, uint16(random.Uint32()), randomBytes(random, 4*random.Intn(3))
	}
	if n := random.Intn(5); n > 0 {
		p.Pad = randomBytes(random, n)
		p.Pad[n-1] = byte(n)
	}
	// Zeros at the end, which a XOR doesn't tell from none.
	if random.Intn(4) == 0 {
		p.Payload, p.Pad = append(p.Payload, 0, 0), nil
	}
	b, e := rtp.Write(p)
	if e != api.OK {
		t.Fatalf("Write(%+v): %d", p, e)
	}
	return b
}

func randomBits(random *rand.Rand) Bits {
	x := Bits{Body: randomBytes(random, random.Intn(30))}
	random.Read(x.Head[:])
	return x
}

func TestExample(t *testing.T) {
	x, e := Of([]byte(small))
	if want := (Bits{Head: [8]byte{0, 0x60, 0, 0, 0, 2, 0, 1}, Body: []byte{0x41}}); e != api.OK || !equal(x, want) {
		t.Errorf("%+v %d", x, e)
	}
	if b, e := Packet(x, 1, 3); e != api.OK || string(b) != small {
		t.Errorf("%x %d", b, e)
	}
}

func TestAllParts(t *testing.T) {
	want := Bits{Head: [8]byte{0x32, 0xE0, 0xA3, 0xB4, 0xC5, 0xD6, 0, 21}, Body: []byte(fullBody)}
	if x, e := Of([]byte(full)); e != api.OK || !equal(x, want) {
		t.Errorf("%+v %d", x, e)
	}
	if b, e := Packet(want, 0x8192, 0xE7F8091A); e != api.OK || string(b) != full {
		t.Errorf("%x %d", b, e)
	}
}

// P12.1: the errors are those of layer 5.
func TestErrorsOfOf(t *testing.T) {
	zeros := func(first string, n int) string { return first + strings.Repeat("\x00", n-len(first)) }
	for _, c := range []struct {
		name, b string
		e       api.Errno
	}{
		{"no bytes", "", api.ErrShort},
		{"a wrong version", "\x40", api.ErrForm},
		{"a wrong version, complete", "\x00" + small[1:], api.ErrForm},
		{"all of the first bits", "\xC0" + small[1:], api.ErrForm},
		{"a header that is cut off", small[:11], api.ErrShort},
		{"a header", small[:12], api.OK},
		{"a CSRC identifier that is missing", "\x81" + small[1:], api.ErrShort},
		{"an extension that is missing", "\x90" + small[1:], api.ErrShort},
		{"padding that is too long", "\xA0" + small[1:], api.ErrForm},
		{"padding of no bytes", "\xA0" + small[1:12] + "\x00", api.ErrForm},
		{"padding of one byte", "\xA0" + small[1:12] + "\x01", api.OK},
		{"1500 bytes", zeros(small, 1500), api.OK},
		{"1501 bytes", zeros(small, 1501), api.ErrLong},
		{"1501 bytes of a wrong version", zeros("", 1501), api.ErrLong},
		{"all parts", full, api.OK},
	} {
		if _, e := Of([]byte(c.b)); e != c.e {
			t.Errorf("%s: %d, want %d", c.name, e, c.e)
		}
		checkOf(t, []byte(c.b))
	}
	for n := range len(full) + 1 {
		checkOf(t, []byte(full[:n]))
	}
}

// P12.1: every value of the first two bytes.
func TestFirstBytes(t *testing.T) {
	for i := range 1 << 16 {
		b := append([]byte{byte(i >> 8), byte(i)}, full[2:]...)
		x, e := Of(b)
		if _, want := rtp.Parse(b); e != want || e == api.OK && !equal(x, model(b)) {
			t.Fatalf("Of(%x): %+v %d", b, x, e)
		}
		y := model([]byte(full))
		y.Head[0], y.Head[1] = byte(i>>8), byte(i)
		checkPacket(t, y, uint16(i), uint32(i)<<12)
	}
}

// P12.1: the length at both limits, and the bytes that aren't a packet.
func TestPacketErrors(t *testing.T) {
	body := func(n int) []byte { return make([]byte, n) }
	for _, c := range []struct {
		name string
		x    Bits
		e    api.Errno
		size int
	}{
		{"the zero value", Bits{}, api.OK, 12},
		{"no length, with a body", Bits{Body: []byte("AB")}, api.OK, 12},
		{"a length without a body", Bits{Head: [8]byte{7: 1}}, api.ErrWrong, 0},
		{"as many bytes as there are", Bits{Head: [8]byte{7: 2}, Body: []byte("AB")}, api.OK, 14},
		{"fewer bytes than there are", Bits{Head: [8]byte{7: 1}, Body: []byte("AB")}, api.OK, 13},
		{"more bytes than there are", Bits{Head: [8]byte{7: 3}, Body: []byte("AB")}, api.ErrWrong, 0},
		{"far more bytes than there are", Bits{Head: [8]byte{6: 1, 7: 2}, Body: []byte("AB")}, api.ErrWrong, 0},
		{"1488 bytes", Bits{Head: [8]byte{6: 5, 7: 208}, Body: body(1488)}, api.OK, 1500},
		{"1488 bytes of more", Bits{Head: [8]byte{6: 5, 7: 208}, Body: body(70000)}, api.OK, 1500},
		{"1488 bytes of 1487", Bits{Head: [8]byte{6: 5, 7: 208}, Body: body(1487)}, api.ErrWrong, 0},
		{"1489 bytes", Bits{Head: [8]byte{6: 5, 7: 209}, Body: body(1489)}, api.ErrWrong, 0},
		{"65535 bytes", Bits{Head: [8]byte{6: 255, 7: 255}, Body: body(65535)}, api.ErrWrong, 0},
		{"a CSRC identifier that is missing", Bits{Head: [8]byte{0: 1, 7: 3}, Body: body(10)}, api.ErrWrong, 0},
		{"a CSRC identifier", Bits{Head: [8]byte{0: 1, 7: 4}, Body: body(10)}, api.OK, 16},
		{"an extension that is missing", Bits{Head: [8]byte{0: 16, 7: 3}, Body: body(10)}, api.ErrWrong, 0},
		{"an extension that is cut off", Bits{Head: [8]byte{0: 16, 7: 4}, Body: []byte("\x00\x00\x00\x01wxyz")}, api.ErrWrong, 0},
		{"an extension", Bits{Head: [8]byte{0: 16, 7: 8}, Body: []byte("\x00\x00\x00\x01wxyz")}, api.OK, 20},
		{"padding without bytes", Bits{Head: [8]byte{0: 32}, Body: []byte("\x01")}, api.ErrWrong, 0},
		{"padding of no bytes", Bits{Head: [8]byte{0: 32, 7: 1}, Body: []byte("\x00\x01")}, api.ErrWrong, 0},
		{"padding that is too long", Bits{Head: [8]byte{0: 32, 7: 1}, Body: []byte("\x02\x01")}, api.ErrWrong, 0},
		{"padding", Bits{Head: [8]byte{0: 32, 7: 1}, Body: []byte("\x01\x02")}, api.OK, 13},
		{"first bits that are ignored", Bits{Head: [8]byte{0: 0xC0}}, api.OK, 12},
	} {
		b, e := Packet(c.x, 5, 6)
		if e != c.e || len(b) != c.size {
			t.Errorf("%s: %d bytes, %d", c.name, len(b), e)
		}
		checkPacket(t, c.x, 5, 6)
		checkPacket(t, c.x, 65535, 1<<32-1)
	}
}

// P12.2, P5: a packet comes back from its imprint, whatever is appended.
func TestPacketComesBack(t *testing.T) {
	random := rand.New(rand.NewSource(1))
	for range 3000 {
		checkOf(t, randomPacket(t, random))
	}
}

// P12.1: bytes and imprints that are mostly not those of a packet.
func TestAnyBytes(t *testing.T) {
	random := rand.New(rand.NewSource(2))
	for range 20000 {
		b := randomPacket(t, random)
		b[random.Intn(len(b))] = byte(random.Uint32())
		checkOf(t, b)
		checkOf(t, b[:random.Intn(len(b)+1)])
		x := randomBits(random)
		checkPacket(t, x, uint16(random.Uint32()), random.Uint32())
		x.Head[6], x.Head[7] = 0, byte(random.Intn(32))
		checkPacket(t, x, uint16(random.Uint32()), random.Uint32())
	}
}

func TestLength(t *testing.T) {
	for n := range 1 << 16 {
		x := Bits{Head: [8]byte{0: 0xFF, 5: 0xFF, 6: byte(n >> 8), 7: byte(n)}, Body: []byte("A")}
		if got := Length(x); got != n {
			t.Fatalf("Length of %d: %d", n, got)
		}
	}
}

// P12.1: Add and Fold against the XOR byte by byte, with the lengths of Body.
func TestSums(t *testing.T) {
	random := rand.New(rand.NewSource(3))
	lists := [][]Bits{nil, {}, {{}}, {{}, {}}, {{Body: []byte{0, 0}}, {Body: []byte{}}}, {{Body: []byte{1, 2}}, {Body: []byte{1, 2}}}}
	for range 1000 {
		var list []Bits
		for range random.Intn(7) {
			list = append(list, randomBits(random))
		}
		lists = append(lists, list)
	}
	for _, list := range lists {
		var before []Bits
		for _, x := range list {
			before = append(before, clone(x))
		}
		want := modelSum(list...)
		if got := Fold(slices.Values(list)); !equal(got, want) {
			t.Fatalf("Fold(%v) = %v, want %v", list, got, want)
		}
		if len(list) == 2 {
			if x, y := Add(list[0], list[1]), Add(list[1], list[0]); !equal(x, want) || !equal(y, want) {
				t.Fatalf("Add(%v) = %v, %v, want %v", list, x, y, want)
			}
		}
		if !slices.EqualFunc(list, before, equal) {
			t.Fatalf("%v became %v", before, list)
		}
	}
	if got := Fold(nil); !equal(got, Bits{}) {
		t.Errorf("Fold of no iterator: %v", got)
	}
}

// The iterator may pass the same memory each time, and is asked for all once.
func TestFoldOfOneBuffer(t *testing.T) {
	runs := 0
	var xs iter.Seq[Bits] = func(yield func(Bits) bool) {
		runs++
		buffer := make([]byte, 2)
		for i := range 4 {
			buffer[0], buffer[1] = byte(1<<i), byte(i)
			if !yield(Bits{Head: [8]byte{3: byte(1 << i)}, Body: buffer[:1+i%2]}) {
				t.Error("Fold stops early")
				return
			}
		}
	}
	if got := Fold(xs); !equal(got, Bits{Head: [8]byte{3: 15}, Body: []byte{15, 1 ^ 3}}) || runs != 1 {
		t.Errorf("%v, %d runs", got, runs)
	}
}

// P12.3: the XOR of several, with all of them but one, is that one.
func TestAllButOne(t *testing.T) {
	random := rand.New(rand.NewSource(4))
	for range 500 {
		var packets [][]byte
		var xs []Bits
		for range 1 + random.Intn(8) {
			b := randomPacket(t, random)
			x, _ := Of(b)
			packets, xs = append(packets, b), append(xs, x)
		}
		all := Fold(slices.Values(xs))
		for lost, b := range packets {
			rest := all
			for i, x := range xs {
				if i != lost {
					rest = Add(rest, x)
				}
			}
			others := Fold(slices.Values(slices.Delete(slices.Clone(xs), lost, lost+1)))
			seq, _ := rtp.Seq(b)
			ssrc, _ := rtp.SSRC(b)
			for _, x := range []Bits{rest, Add(all, others), Add(others, all)} {
				if again, e := Packet(x, seq, ssrc); !Same(x, xs[lost]) || e != api.OK || !bytes.Equal(again, b) {
					t.Fatalf("%x of %d came back as %x %d", b, len(xs), again, e)
				}
			}
		}
	}
}

func TestSame(t *testing.T) {
	for _, c := range []struct {
		a, b string
		want bool
	}{
		{"", "", true}, {"", "\x00\x00", true}, {"A", "A", true}, {"A", "A\x00", true}, {"A\x00\x00", "A\x00", true},
		{"", "A", false}, {"A", "B", false}, {"A", "AA", false}, {"A", "\x00A", false}, {"A", "A\x00B", false},
		{"AB", "A", false}, {"A\x00B", "A\x00\x00", false}, {"\x00", "\x80", false}, {"", "\x00\x01", false},
	} {
		x, y := Bits{Head: [8]byte{1, 2}, Body: []byte(c.a)}, Bits{Head: [8]byte{1, 2}, Body: []byte(c.b)}
		if Same(x, y) != c.want || Same(y, x) != c.want {
			t.Errorf("%q and %q: %v %v", c.a, c.b, Same(x, y), Same(y, x))
		}
	}
	// All bits of Head count, also those that a packet doesn't have.
	x := Bits{Head: [8]byte{1, 2, 3, 4, 5, 6, 7, 8}, Body: []byte("A")}
	for i := range 64 {
		y := clone(x)
		y.Head[i/8] ^= 1 << (i % 8)
		if Same(x, y) || Same(y, x) || !Same(y, y) {
			t.Errorf("bit %d of byte %d", i%8, i/8)
		}
	}
}

func TestEmpty(t *testing.T) {
	for _, n := range []int{0, 1, 2, 9, 2000} {
		x := Bits{Body: make([]byte, n)}
		if !Empty(x) {
			t.Errorf("%d zeros aren't empty", n)
		}
		for i := range min(n, 20) {
			x.Body[n-1-i] = 0x80
			if Empty(x) {
				t.Errorf("a bit in %d bytes, %d from the end, is empty", n, i)
			}
			x.Body[n-1-i] = 0
		}
		for i := range 64 {
			x.Head = [8]byte{}
			x.Head[i/8] = 1 << (i % 8)
			if Empty(x) {
				t.Errorf("bit %d of byte %d of Head is empty", i%8, i/8)
			}
		}
	}
	if !Empty(Bits{}) {
		t.Error("the zero value isn't empty")
	}
}

func scribble(b []byte) {
	b = b[:cap(b)]
	for i := range b {
		b[i] = 'x'
	}
}

// checkNew is given what makes the same bytes, which end with "ab", from the memory all.
func checkNew(t *testing.T, name string, all []byte, build func() []byte) {
	t.Helper()
	kept, want := bytes.Clone(all), bytes.Clone(build())
	first, second := build(), build()
	scribble(first)
	if !bytes.Equal(all, kept) {
		t.Errorf("%s: the result shares memory with the argument: %q", name, all)
	}
	scribble(all)
	if !bytes.HasSuffix(want, []byte("ab")) || !bytes.Equal(second, want) {
		t.Errorf("%s: %q, then %q", name, want, second)
	}
}

// Bytes that come out are new memory, with what lies behind their length.
func TestResultsAreNewMemory(t *testing.T) {
	packet := []byte("<" + small[:12] + "ab" + ">>>")
	checkNew(t, "Of", packet, func() []byte { x, _ := Of(packet[1:15]); return x.Body })
	all := []byte("<ab>>>")
	given := Bits{Head: [8]byte{7: 2}, Body: all[1:3]}
	for name, build := range map[string]func() []byte{
		"Packet":          func() []byte { b, _ := Packet(given, 5, 6); return b },
		"Add":             func() []byte { return Add(given, Bits{}).Body },
		"Add, the second": func() []byte { return Add(Bits{}, given).Body },
		"Fold":            func() []byte { return Fold(slices.Values([]Bits{given})).Body },
		"Fold of three":   func() []byte { return Fold(slices.Values([]Bits{given, {Body: []byte{1}}, {Body: []byte{1}}})).Body },
	} {
		copy(all, "<ab>>>")
		checkNew(t, name, all, build)
	}
}
