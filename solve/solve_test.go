package solve

import (
	"bytes"
	"math/rand"
	"slices"
	"testing"

	"conflux/api"
	"conflux/parity"
	"conflux/rtp"
)

const (
	first  = "\x80\x60\xFF\xFF\x00\x00\x00\x02\x00\x00\x00\x03ab"
	second = "\x80\x60\x00\x00\x00\x00\x00\x02\x00\x00\x00\x03b"
)

func two() [][]byte { return [][]byte{[]byte(first), []byte(second)} }

// small is a packet of a number and a source.
func small(seq int, ssrc byte, payload string) []byte {
	return append([]byte{0x80, 0x60, byte(seq >> 8), byte(seq), 0, 0, 0, 2, 0, 0, 0, ssrc}, payload...)
}

// from is the function of a book, whose bytes needn't be packets.
func from(book map[uint16][]byte) func(seq uint16) ([]byte, bool) {
	return func(seq uint16) ([]byte, bool) {
		b, ok := book[seq]
		return b, ok
	}
}

// of is the function of packets that are available.
func of(packets ...[]byte) func(seq uint16) ([]byte, bool) { return from(Book(packets)) }

func seqOf(b []byte) uint16 { return uint16(b[2])<<8 + uint16(b[3]) }

// numbersOf is the numbers of a repair, by their definition.
func numbersOf(r api.Repair) []uint16 {
	var list []uint16
	for i := range 128 {
		word := r.Hi
		if i >= 64 {
			word = r.Lo
		}
		if word>>(63-i%64)&1 == 1 {
			list = append(list, uint16((int(r.Base)+i)%65536))
		}
	}
	return list
}

// sum is a Head and a Body, byte by byte.
type sum struct {
	head [8]byte
	body []byte
}

func (s *sum) add(head, body []byte) {
	for i, x := range head {
		s.head[i] ^= x
	}
	for i, x := range body {
		if i == len(s.body) {
			s.body = append(s.body, 0)
		}
		s.body[i] ^= x
	}
}

func (s *sum) addPacket(b []byte) {
	n := len(b) - 12
	s.add([]byte{b[0] % 64, b[1], b[4], b[5], b[6], b[7], byte(n / 256), byte(n % 256)}, b[12:])
}

func (s *sum) zero() bool {
	return s.head[0]%64 == 0 && bytes.Count(s.head[1:], []byte{0}) == 7 && len(bytes.TrimRight(s.body, "\x00")) == 0
}

// model is what One, Check and Count return by the document, of a book of bytes.
type model struct {
	seq     uint16
	packet  []byte
	e       api.Errno
	check   bool
	missing int
}

func usable(b []byte, seq uint16, ssrc uint32) bool {
	p, e := rtp.Parse(b)
	return e == api.OK && p.Seq == seq && p.SSRC == ssrc
}

func solve(r api.Repair, ssrc uint32, book map[uint16][]byte) model {
	var m model
	var rest sum
	rest.add(r.Head[:], r.Body)
	var lost uint16
	numbers := numbersOf(r)
	for _, n := range numbers {
		if b, ok := book[n]; ok && usable(b, n, ssrc) {
			rest.addPacket(b)
		} else {
			m.missing++
			lost = n
		}
	}
	m.check = m.missing == 0 && rest.zero()
	switch {
	case len(numbers) == 0:
		m.e = api.ErrBits
	case m.missing == 0:
		m.e = api.ErrKnown
	case m.missing > 1:
		m.e = api.ErrLess
	default:
		m.packet, m.e = rest.packet(lost, ssrc)
		if m.e == api.OK {
			m.seq = lost
		}
	}
	return m
}

func (s *sum) packet(seq uint16, ssrc uint32) ([]byte, api.Errno) {
	n := int(s.head[6])*256 + int(s.head[7])
	if n > len(s.body) || n > 1488 {
		return nil, api.ErrWrong
	}
	b := []byte{128 + s.head[0]%64, s.head[1], byte(seq >> 8), byte(seq)}
	b = append(b, s.head[2:6]...)
	b = append(b, byte(ssrc>>24), byte(ssrc>>16), byte(ssrc>>8), byte(ssrc))
	b = append(b, s.body[:n]...)
	if _, e := rtp.Parse(b); e != api.OK {
		return nil, api.ErrWrong
	}
	return b, api.OK
}

func clone(r api.Repair) api.Repair {
	r.Body = bytes.Clone(r.Body)
	return r
}

func equal(r, s api.Repair) bool {
	return r.Head == s.Head && r.Base == s.Base && r.Hi == s.Hi && r.Lo == s.Lo && bytes.Equal(r.Body, s.Body)
}

// check holds all functions against the model, and returns what One returns.
func check(t *testing.T, r api.Repair, ssrc uint32, book map[uint16][]byte) ([]byte, api.Errno) {
	t.Helper()
	before, kept := clone(r), map[uint16][]byte{}
	for n, b := range book {
		kept[n] = bytes.Clone(b)
	}
	want := solve(r, ssrc, book)
	seq, b, e := One(r, ssrc, from(book))
	if seq != want.seq || !bytes.Equal(b, want.packet) || e != want.e {
		t.Fatalf("One(%+v, %d) with %x: %d %x %d, want %+v", r, ssrc, book, seq, b, e, want)
	}
	if got := Check(r, ssrc, from(book)); got != want.check {
		t.Fatalf("Check(%+v, %d) with %x: %v", r, ssrc, book, got)
	}
	if got := Count(r, from(book), ssrc); got != want.missing {
		t.Fatalf("Count(%+v, %d) with %x: %d, want %d", r, ssrc, book, got, want.missing)
	}
	if !equal(r, before) {
		t.Fatalf("%+v became %+v", before, r)
	}
	for n, b := range kept {
		if !bytes.Equal(book[n], b) {
			t.Fatalf("the packet %d, %x, became %x", n, b, book[n])
		}
	}
	return b, e
}

func repairOf(t *testing.T, packets ...[]byte) api.Repair {
	t.Helper()
	r, e := parity.Make(packets)
	if e != api.OK {
		t.Fatalf("Make(%x): %d", packets, e)
	}
	return r
}

func randomBytes(random *rand.Rand, n int) []byte {
	b := make([]byte, n)
	random.Read(b)
	return b
}

// randomPacket is the encoding of a packet, which often has all parts.
func randomPacket(t *testing.T, random *rand.Rand, seq uint16, ssrc uint32) []byte {
	t.Helper()
	p := api.Packet{
		Marker: random.Intn(2) == 0, PT: random.Intn(128), Seq: seq, TS: random.Uint32(),
		SSRC: ssrc, Payload: randomBytes(random, random.Intn(40)),
	}
	for range random.Intn(4) {
		p.CSRC = append(p.CSRC, random.Uint32())
	}
	if random.Intn(2) == 0 {
		p.HasExt, p.Profile, p.Ext = true, uint16(random.Uint32()), randomBytes(random, 4*random.Intn(3))
	}
	if n := random.Intn(5); n > 0 {
		p.Pad = randomBytes(random, n)
		p.Pad[n-1] = byte(n)
	}
	// Zeros at the end, which a XOR doesn't tell from none.
	if random.Intn(4) == 0 {
		p.Payload, p.Pad = append(p.Payload, 0, 0), nil
	}
	b, e := rtp.Write(p)
	if e != api.OK {
		t.Fatalf("Write(%+v): %d", p, e)
	}
	return b
}

// randomPackets is packets of a source within a span of 109, in any order.
func randomPackets(t *testing.T, random *rand.Rand, n int, ssrc uint32) [][]byte {
	t.Helper()
	start := random.Intn(65536)
	var packets [][]byte
	for _, d := range random.Perm(109)[:n] {
		packets = append(packets, randomPacket(t, random, uint16(start+d), ssrc))
	}
	return packets
}

func TestExample(t *testing.T) {
	r := repairOf(t, two()...)
	if seq, b, e := One(r, 3, of([]byte(second))); seq != 65535 || string(b) != first || e != api.OK {
		t.Errorf("%d %q %d", seq, b, e)
	}
	if seq, b, e := One(r, 3, of([]byte(first))); seq != 0 || string(b) != second || e != api.OK {
		t.Errorf("%d %q %d", seq, b, e)
	}
}

// P14.2, P3: each packet comes back from the repair and all the others.
func TestEachPacket(t *testing.T) {
	random := rand.New(rand.NewSource(1))
	for round := range 500 {
		ssrc := random.Uint32()
		n := 1 + random.Intn(10)
		if round%100 == 0 {
			n = 48
		}
		packets := randomPackets(t, random, n, ssrc)
		r := repairOf(t, packets...)
		r.Head[0] |= byte(round << 6)
		if round%3 == 0 {
			r.Body = append(r.Body, 0, 0, 0)
		}
		for i, b := range packets {
			book := Book(slices.Delete(slices.Clone(packets), i, i+1))
			if got, e := check(t, r, ssrc, book); e != api.OK || !bytes.Equal(got, b) {
				t.Fatalf("%x came back as %x %d", b, got, e)
			}
			seq, _, _ := One(r, ssrc, from(book))
			if seq != seqOf(b) {
				t.Fatalf("%d came back as %d", seqOf(b), seq)
			}
		}
		book := Book(packets)
		if _, e := check(t, r, ssrc, book); e != api.ErrKnown || !Check(r, ssrc, from(book)) {
			t.Fatalf("with all packets: %d", e)
		}
	}
}

// P14.2: the longest packets, over the whole span.
func TestGreatest(t *testing.T) {
	packets := [][]byte{
		small(65480, 3, string(bytes.Repeat([]byte{0xAB}, 1488))), small(0, 3, ""),
		small(52, 3, string(bytes.Repeat([]byte{0xCD}, 1488))),
	}
	r := repairOf(t, packets...)
	for i, b := range packets {
		got, e := check(t, r, 3, Book(slices.Delete(slices.Clone(packets), i, i+1)))
		if e != api.OK || !bytes.Equal(got, b) {
			t.Errorf("packet %d: %d bytes, %d", i, len(got), e)
		}
	}
}

// P14.1: every error, and which of two comes first.
func TestErrorsOfOne(t *testing.T) {
	ps := two()
	r := repairOf(t, ps...)
	with := func(change func(r *api.Repair)) api.Repair {
		s := clone(r)
		change(&s)
		return s
	}
	for _, c := range []struct {
		name  string
		r     api.Repair
		ssrc  uint32
		known [][]byte
		e     api.Errno
	}{
		{"no packets", api.Repair{}, 3, nil, api.ErrBits},
		{"no packets, but a base and bytes", with(func(r *api.Repair) { r.Hi = 0 }), 3, ps, api.ErrBits},
		{"only the last bit, known", api.Repair{Base: 65535 - 126, Lo: 1}, 3, ps[1:], api.ErrKnown},
		{"only the last bit, missing", api.Repair{Base: 65535 - 126, Lo: 1}, 3, ps[:1], api.OK},
		{"all known", r, 3, ps, api.ErrKnown},
		{"all known, of wrong bytes", with(func(r *api.Repair) { r.Head[6] = 9 }), 3, ps, api.ErrKnown},
		{"none known", r, 3, nil, api.ErrLess},
		{"none known, of wrong bytes", with(func(r *api.Repair) { r.Head[6] = 9 }), 3, nil, api.ErrLess},
		{"all of another source", r, 4, ps, api.ErrLess},
		{"a source with other high bits", r, 3 | 1<<31, ps, api.ErrLess},
		{"one of another source", r, 3, [][]byte{small(65535, 4, "ab"), ps[1]}, api.OK},
		{"two of three missing", with(func(r *api.Repair) { r.Hi |= 1 << 61 }), 3, ps[:1], api.ErrLess},
		{"one of three missing", with(func(r *api.Repair) { r.Hi |= 1 << 61 }), 3, ps, api.OK},
		{"all 128 missing", api.Repair{Hi: 1<<64 - 1, Lo: 1<<64 - 1}, 3, nil, api.ErrLess},
		{"a length that is too great", with(func(r *api.Repair) { r.Head[6] = 9 }), 3, ps[1:], api.ErrWrong},
		{"a body that is too short", with(func(r *api.Repair) { r.Body = r.Body[:1] }), 3, ps[1:], api.ErrWrong},
		{"a body that is too short, of zeros that the others have", with(func(r *api.Repair) { r.Body = nil }), 3, ps[:1], api.OK},
		{"a CSRC identifier that is missing", with(func(r *api.Repair) { r.Head[0] = 1 }), 3, ps[1:], api.ErrWrong},
		{"padding that is too long", with(func(r *api.Repair) { r.Head[0] = 0x20 }), 3, ps[1:], api.ErrWrong},
		{"first bits that are ignored", with(func(r *api.Repair) { r.Head[0] = 0xC0 }), 3, ps[1:], api.OK},
		{"no length", api.Repair{Hi: 1 << 63, Body: []byte("abc")}, 3, nil, api.OK},
	} {
		seq, b, e := One(c.r, c.ssrc, of(c.known...))
		if e != c.e || e != api.OK && (seq != 0 || len(b) != 0) {
			t.Errorf("%s: %d %q %d, want %d", c.name, seq, b, e, c.e)
		}
		check(t, c.r, c.ssrc, Book(c.known))
	}
}

// P14.1: bytes that aren't the packet that was asked for count as missing.
func TestUnusableBytes(t *testing.T) {
	ps := append(two(), small(1, 3, "xyz"))
	r := repairOf(t, ps...)
	for _, c := range []struct {
		name string
		b    []byte
		e    api.Errno
	}{
		{"nil", nil, api.OK},
		{"a packet that is cut off", []byte(first[:11]), api.OK},
		{"a wrong version", []byte("\x40" + first[1:]), api.OK},
		{"a packet that is too long", append([]byte(first), make([]byte, 1500)...), api.OK},
		{"the number of another one", small(0, 3, "ab"), api.OK},
		{"a number with another high byte", small(0x00FF, 3, "ab"), api.OK},
		{"another source", small(65535, 2, "ab"), api.OK},
		{"the packet", []byte(first), api.ErrKnown},
		{"other bytes of that number and source", small(65535, 3, "zzz"), api.ErrKnown},
	} {
		book := map[uint16][]byte{65535: c.b, 0: ps[1], 1: ps[2], 2: []byte(first)}
		b, e := check(t, r, 3, book)
		if e != c.e || e == api.OK && string(b) != first {
			t.Errorf("%s: %q %d", c.name, b, e)
		}
		if Check(r, 3, from(book)) != (string(c.b) == first) {
			t.Errorf("%s: Check", c.name)
		}
		book[0] = nil
		if _, e := check(t, r, 3, book); e == api.ErrKnown || e == api.OK && c.e == api.OK {
			t.Errorf("%s, and another one missing: %d", c.name, e)
		}
		delete(book, 0)
		check(t, r, 3, book)
	}
	// Not even where a packet that couldn't be read has that number and source, 0.
	zeros := [][]byte{small(0, 0, "ab"), small(1, 0, "c")}
	for _, b := range [][]byte{nil, zeros[0][:11], []byte("\x40abcdefghijkl"), make([]byte, 1501)} {
		book := map[uint16][]byte{0: b, 1: zeros[1]}
		if got, e := check(t, repairOf(t, zeros...), 0, book); e != api.OK || !bytes.Equal(got, zeros[0]) {
			t.Errorf("%x: %x %d", b, got, e)
		}
	}
	// Bytes beside false aren't available either.
	refuse := func(seq uint16) ([]byte, bool) { return Book(ps)[seq], seq != 0 }
	if seq, b, e := One(r, 3, refuse); seq != 0 || string(b) != second || e != api.OK {
		t.Errorf("%d %q %d", seq, b, e)
	}
	if Check(r, 3, refuse) || Count(r, refuse, 3) != 1 {
		t.Error("bytes beside false")
	}
}

// P14.1, P14.3: whatever the repair and the bytes are.
func TestAnything(t *testing.T) {
	random := rand.New(rand.NewSource(2))
	counts := map[api.Errno]int{}
	for range 20000 {
		r := api.Repair{Base: uint16(random.Intn(4) - 2), Body: randomBytes(random, random.Intn(30))}
		random.Read(r.Head[:])
		r.Head[6], r.Head[7] = byte(random.Intn(20)/19), byte(random.Intn(40))
		for range random.Intn(5) {
			r.Hi |= 1 << (63 - random.Intn(6))
		}
		if random.Intn(4) == 0 {
			r.Lo = 1 << random.Intn(2)
		}
		book := map[uint16][]byte{}
		for _, n := range numbersOf(r) {
			if random.Intn(8) > 0 {
				book[n] = randomPacket(t, random, n, 3)
			}
			if random.Intn(8) == 0 && len(book[n]) > 0 {
				book[n][random.Intn(len(book[n]))] ^= 1 << random.Intn(8)
			}
		}
		b, e := check(t, r, 3, book)
		counts[e]++
		if e == api.OK {
			seq, _, _ := One(r, 3, from(book))
			if !usable(b, seq, 3) || !slices.Contains(numbersOf(r), seq) {
				t.Fatalf("%d %x", seq, b)
			}
		}
	}
	for _, e := range []api.Errno{api.OK, api.ErrBits, api.ErrKnown, api.ErrLess, api.ErrWrong} {
		if counts[e] < 100 {
			t.Errorf("error %d occurs %d times", e, counts[e])
		}
	}
}

func TestCheck(t *testing.T) {
	packets := [][]byte{small(1, 3, "ab\x00"), small(5, 3, "c"), small(70, 3, "")}
	r := repairOf(t, packets...)
	known := of(packets...)
	for _, body := range []string{"\x02b", "\x02b\x00", "\x02b\x00\x00", "\x02b\x00\x00\x00\x00"} {
		s := r
		s.Body = []byte(body)
		if !Check(s, 3, known) {
			t.Errorf("with %q", body)
		}
	}
	for _, body := range []string{"", "\x02", "\x02c", "\x02b\x01", "\x02b\x00\x01", "\x00\x02b"} {
		s := r
		s.Body = []byte(body)
		if Check(s, 3, known) {
			t.Errorf("with %q", body)
		}
	}
	for i := range 64 {
		s := r
		s.Head[i/8] ^= 0x80 >> (i % 8)
		if Check(s, 3, known) != (i < 2) {
			t.Errorf("with another bit %d of Head", i)
		}
	}
	for i := range packets {
		if Check(r, 3, of(slices.Delete(slices.Clone(packets), i, i+1)...)) {
			t.Errorf("without packet %d", i)
		}
	}
	if Check(r, 4, known) {
		t.Error("of another source")
	}
	// Of no packets, all are available, and their XOR has only zeros.
	if !Check(api.Repair{}, 3, of()) || !Check(api.Repair{Head: [8]byte{0xC0}, Base: 7, Body: make([]byte, 3)}, 3, of()) ||
		Check(api.Repair{Head: [8]byte{7: 1}}, 3, of()) || Check(api.Repair{Body: []byte{0, 1}}, 3, of()) {
		t.Error("of no packets")
	}
}

func TestCount(t *testing.T) {
	full := api.Repair{Base: 65500, Hi: 1<<64 - 1, Lo: 1<<64 - 1}
	var packets [][]byte
	for i := range 129 {
		if got := Count(full, of(packets...), 3); got != 128-i {
			t.Fatalf("with %d: %d", i, got)
		}
		if got := Count(full, of(packets...), 4); got != 128 {
			t.Fatalf("with %d of another source: %d", i, got)
		}
		packets = append(packets, small(65500+i, 3, ""))
	}
	if got := Count(full, of(packets...), 3); got != 0 {
		t.Errorf("with all: %d", got)
	}
	if got := Count(api.Repair{Base: 5, Body: []byte("ab")}, of(), 3); got != 0 {
		t.Errorf("of no packets: %d", got)
	}
}

// P1: without a function, no packet is known.
func TestWithoutFunction(t *testing.T) {
	r := repairOf(t, two()...)
	one := repairOf(t, []byte(first))
	if _, _, e := One(api.Repair{}, 3, nil); e != api.ErrBits {
		t.Errorf("of no packets: %d", e)
	}
	if _, _, e := One(r, 3, nil); e != api.ErrLess {
		t.Errorf("of two: %d", e)
	}
	if seq, b, e := One(one, 3, nil); seq != 65535 || string(b) != first || e != api.OK {
		t.Errorf("of one: %d %q %d", seq, b, e)
	}
	if Check(r, 3, nil) || !Check(api.Repair{}, 3, nil) {
		t.Error("Check")
	}
	if Count(r, nil, 3) != 2 || Count(one, nil, 3) != 1 || Count(api.Repair{}, nil, 3) != 0 {
		t.Error("Count")
	}
}

// Each packet is asked for once, in order, so that a function that changes its mind cannot do harm.
func TestAsksOnce(t *testing.T) {
	packets := append(two(), small(1, 3, "xyz"))
	r := repairOf(t, packets...)
	book := Book(packets)
	var asked []uint16
	known := func(seq uint16) ([]byte, bool) {
		asked = append(asked, seq)
		return book[seq], seq != 0
	}
	for name, call := range map[string]func(){
		"One":   func() { One(r, 3, known) },
		"Check": func() { Check(r, 3, known) },
		"Count": func() { Count(r, known, 3) },
	} {
		asked = nil
		call()
		if !slices.Equal(asked, []uint16{65535, 0, 1}) {
			t.Errorf("%s asks for %v", name, asked)
		}
	}
	// The bytes of one packet may be overwritten by the next one.
	buffer := make([]byte, 0, 100)
	reuse := func(seq uint16) ([]byte, bool) {
		buffer = append(buffer[:0], book[seq]...)
		return buffer, seq != 65535
	}
	if _, b, e := One(r, 3, reuse); e != api.OK || string(b) != first {
		t.Errorf("%q %d", b, e)
	}
}

func TestBook(t *testing.T) {
	packets := [][]byte{
		small(5, 3, "a"), nil, small(5, 4, "b"), []byte(first[:11]), []byte("\x40" + first[1:]), []byte(first),
		small(65535, 9, ""), small(0, 3, "c"), append([]byte(second), make([]byte, 1500)...), small(0, 3, "d"),
	}
	before := slices.Clone(packets)
	for i, b := range packets {
		before[i] = bytes.Clone(b)
	}
	book := Book(packets)
	if len(book) != 3 || !bytes.Equal(book[5], packets[0]) || string(book[65535]) != first || !bytes.Equal(book[0], packets[7]) {
		t.Errorf("%x", book)
	}
	if !slices.EqualFunc(packets, before, bytes.Equal) {
		t.Errorf("%x became %x", before, packets)
	}
	for _, none := range [][][]byte{nil, {}, {nil}, {nil, []byte("x")}} {
		if got := Book(none); len(got) != 0 {
			t.Errorf("Book(%q): %x", none, got)
		}
	}
	random := rand.New(rand.NewSource(3))
	for range 300 {
		var packets [][]byte
		want := map[uint16][]byte{}
		for range random.Intn(12) {
			b := randomPacket(t, random, uint16(random.Intn(6)-3), random.Uint32())
			b = b[:len(b)-random.Intn(3)]
			packets = append(packets, b)
			if _, e := rtp.Parse(b); e == api.OK && want[seqOf(b)] == nil {
				want[seqOf(b)] = b
			}
		}
		got := Book(packets)
		for n, b := range want {
			if !bytes.Equal(got[n], b) {
				t.Fatalf("%d is %x, want %x", n, got[n], b)
			}
		}
		if len(got) != len(want) {
			t.Fatalf("%x, want %x", got, want)
		}
	}
}

func scribble(b []byte) {
	b = b[:cap(b)]
	for i := range b {
		b[i] = 'x'
	}
}

// Bytes that come out are new memory, with what lies behind their length.
func TestResultsAreNewMemory(t *testing.T) {
	whole := []byte("<" + first + ">>>")
	kept := bytes.Clone(whole)
	packets := [][]byte{whole[1 : 1+len(first)], []byte(second)}
	one, two := Book(packets), Book(packets)
	scribble(one[65535])
	scribble(one[0])
	if !bytes.Equal(whole, kept) || string(packets[1]) != second {
		t.Errorf("Book shares memory with its argument: %q", packets)
	}
	scribble(whole)
	if string(two[65535]) != first || string(two[0]) != second {
		t.Errorf("Book keeps its argument: %x", two)
	}
	same := []byte(first)
	book := Book([][]byte{same, small(7, 3, ""), same})
	scribble(book[7])
	if string(book[65535]) != first {
		t.Errorf("two packets share memory: %x", book)
	}

	body := []byte("<ab>>>")
	r := api.Repair{Head: [8]byte{1: 0x60, 5: 2, 7: 2}, Base: 65535, Hi: 1 << 63, Body: body[1:3]}
	_, b, _ := One(r, 3, nil)
	_, again, e := One(r, 3, nil)
	scribble(b)
	if string(body) != "<ab>>>" {
		t.Errorf("One shares memory with its argument: %q", body)
	}
	scribble(body)
	if e != api.OK || string(again) != first {
		t.Errorf("One keeps its argument: %q %d", again, e)
	}
}
