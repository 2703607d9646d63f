package parity

import (
	"bytes"
	"math/rand"
	"slices"
	"testing"

	"conflux/api"
	"conflux/imprint"
	"conflux/rtp"
)

const (
	first  = "\x80\x60\xFF\xFF\x00\x00\x00\x02\x00\x00\x00\x03ab"
	second = "\x80\x60\x00\x00\x00\x00\x00\x02\x00\x00\x00\x03b"
)

// all parts of a packet: two CSRC identifiers, a word of extension, a payload and three bytes of padding.
const full = "\xB2\xE0\x00\x05\xA3\xB4\xC5\xD6\x00\x00\x00\x03" +
	"\x00\x00\x00\x09\xFF\xFE\xFD\xFC" + "\xBE\xDE\x00\x01wxyz" + "hi" + "\x07\x08\x03"

func two() [][]byte { return [][]byte{[]byte(first), []byte(second)} }

// small is a packet of a number and a source.
func small(seq int, ssrc byte, payload string) []byte {
	return append([]byte{0x80, 0x60, byte(seq >> 8), byte(seq), 0, 0, 0, 2, 0, 0, 0, ssrc}, payload...)
}

// row is packets with numbers one after the other.
func row(from, n int) [][]byte {
	var packets [][]byte
	for i := range n {
		packets = append(packets, small(from+i, 3, string(rune('a'+i%26))))
	}
	return packets
}

func cloneAll(packets [][]byte) [][]byte {
	var list [][]byte
	for _, b := range packets {
		list = append(list, bytes.Clone(b))
	}
	return list
}

func equalAll(a, b [][]byte) bool { return slices.EqualFunc(a, b, bytes.Equal) }

// equal tells whether all of two repairs is the same, with the zeros at the end.
func equal(r, s api.Repair) bool {
	return r.Head == s.Head && r.Base == s.Base && r.Hi == s.Hi && r.Lo == s.Lo && bytes.Equal(r.Body, s.Body)
}

func seqOf(b []byte) int { return int(b[2])*256 + int(b[3]) }

// ahead is by how much a number is ahead of another one.
func ahead(n, from int) int {
	d := (n - from + 65536) % 65536
	if d >= 32768 {
		d -= 65536
	}
	return d
}

// base is the one of some numbers within a small span that no other is behind.
func base(packets [][]byte) (int, bool) {
	for _, b := range packets {
		least := true
		for _, c := range packets {
			d := ahead(seqOf(c), seqOf(b))
			least = least && 0 <= d && d < 109
		}
		if least {
			return seqOf(b), true
		}
	}
	return 0, false
}

// modelError is the error of Make by the document, one after the other.
func modelError(packets [][]byte) api.Errno {
	if len(packets) == 0 {
		return api.ErrNone
	}
	if len(packets) > 48 {
		return api.ErrMany
	}
	for _, b := range packets {
		if _, e := rtp.Parse(b); e != api.OK {
			return e
		}
	}
	for _, b := range packets {
		if !bytes.Equal(b[8:12], packets[0][8:12]) {
			return api.ErrRoute
		}
	}
	if _, ok := base(packets); !ok {
		return api.ErrSpan
	}
	seen := map[int]int{}
	for _, b := range packets {
		seen[seqOf(b)]++
	}
	if len(seen) < len(packets) {
		return api.ErrTwice
	}
	return api.OK
}

// model is Make by the document, byte by byte.
func model(packets [][]byte) (api.Repair, api.Errno) {
	if e := modelError(packets); e != api.OK {
		return api.Repair{}, e
	}
	from, _ := base(packets)
	r := api.Repair{Base: uint16(from)}
	for _, b := range packets {
		if d := ahead(seqOf(b), from); d < 64 {
			r.Hi |= 1 << (63 - d)
		} else {
			r.Lo |= 1 << (127 - d)
		}
		n := len(b) - 12
		head := []byte{b[0] % 64, b[1], b[4], b[5], b[6], b[7], byte(n / 256), byte(n % 256)}
		for i, x := range head {
			r.Head[i] ^= x
		}
		for i, x := range b[12:] {
			if i == len(r.Body) {
				r.Body = append(r.Body, 0)
			}
			r.Body[i] ^= x
		}
	}
	return r, api.OK
}

// checkMake holds the repair of packets against the model, and Holds against it.
func checkMake(t *testing.T, packets [][]byte) (api.Repair, api.Errno) {
	t.Helper()
	before := cloneAll(packets)
	r, e := Make(packets)
	want, wantE := model(packets)
	if e != wantE || !equal(r, want) {
		t.Fatalf("Make(%x): %+v %d, want %+v %d", packets, r, e, want, wantE)
	}
	if Holds(want, packets) != (wantE == api.OK) {
		t.Fatalf("Holds of %x: %v", packets, !(wantE == api.OK))
	}
	if !equalAll(packets, before) {
		t.Fatalf("%x became %x", before, packets)
	}
	return r, e
}

func randomBytes(random *rand.Rand, n int) []byte {
	b := make([]byte, n)
	random.Read(b)
	return b
}

// randomPacket is the encoding of a packet, which often has all parts.
func randomPacket(t *testing.T, random *rand.Rand, seq uint16, ssrc uint32) []byte {
	t.Helper()
	p := api.Packet{
		Marker: random.Intn(2) == 0, PT: random.Intn(128), Seq: seq, TS: random.Uint32(),
		SSRC: ssrc, Payload: randomBytes(random, random.Intn(40)),
	}
	for range random.Intn(4) {
		p.CSRC = append(p.CSRC, random.Uint32())
	}
	if random.Intn(2) == 0 {
		p.HasExt, p.Profile, p.Ext = true, uint16(random.Uint32()), randomBytes(random, 4*random.Intn(3))
	}
	if n := random.Intn(5); n > 0 {
		p.Pad = randomBytes(random, n)
		p.Pad[n-1] = byte(n)
	}
	// Zeros at the end, which count for the length of Body.
	if random.Intn(4) == 0 {
		p.Payload, p.Pad = append(p.Payload, 0, 0), nil
	}
	b, e := rtp.Write(p)
	if e != api.OK {
		t.Fatalf("Write(%+v): %d", p, e)
	}
	return b
}

// randomPackets is packets of one source within a span, in any order.
func randomPackets(t *testing.T, random *rand.Rand, n, span int) [][]byte {
	t.Helper()
	from, ssrc := random.Intn(65536), random.Uint32()
	var packets [][]byte
	for _, d := range random.Perm(span)[:n] {
		packets = append(packets, randomPacket(t, random, uint16(from+d), ssrc))
	}
	return packets
}

func TestExample(t *testing.T) {
	want := api.Repair{Head: [8]byte{7: 3}, Base: 65535, Hi: 0xC000000000000000, Body: []byte{0x03, 0x62}}
	if r, e := Make(two()); e != api.OK || !equal(r, want) {
		t.Errorf("%+v %d", r, e)
	}
}

// P13.1: a repair of one packet has all of its imprint.
func TestOnePacket(t *testing.T) {
	want := api.Repair{
		Head: [8]byte{0x32, 0xE0, 0xA3, 0xB4, 0xC5, 0xD6, 0, 21}, Base: 5, Hi: 1 << 63, Body: []byte(full[12:]),
	}
	if r, e := Make([][]byte{[]byte(full)}); e != api.OK || !equal(r, want) {
		t.Errorf("%+v %d", r, e)
	}
	long := small(9, 3, string(make([]byte, 1488)))
	if r, e := Make([][]byte{long}); e != api.OK || len(r.Body) != 1488 || r.Head != [8]byte{1: 0x60, 5: 2, 6: 5, 7: 208} {
		t.Errorf("%d bytes, %x %d", len(r.Body), r.Head, e)
	}
}

// P13.1: every error, and which of two comes first.
func TestErrorsOfMake(t *testing.T) {
	ps := two()
	short, form, long := ps[0][:11], []byte("\x40"+first[1:]), make([]byte, 1501)
	other := small(1, 9, "c")
	for _, c := range []struct {
		name    string
		packets [][]byte
		e       api.Errno
	}{
		{"nil", nil, api.ErrNone},
		{"no packets", [][]byte{}, api.ErrNone},
		{"48 packets", row(65530, 48), api.OK},
		{"49 packets", row(65530, 49), api.ErrMany},
		{"49 that aren't packets", make([][]byte, 49), api.ErrMany},
		{"49 of the same number", slices.Repeat(ps[:1], 49), api.ErrMany},
		{"48 that aren't packets", make([][]byte, 48), api.ErrShort},
		{"one without bytes", [][]byte{nil}, api.ErrShort},
		{"one of a wrong version", [][]byte{form}, api.ErrForm},
		{"one that is too long", [][]byte{long}, api.ErrLong},
		{"the first of three errors", [][]byte{ps[0], form, short, long}, api.ErrForm},
		{"the first of three errors, otherwise", [][]byte{long, form, short}, api.ErrLong},
		{"a wrong source, then no packet", [][]byte{ps[0], other, short}, api.ErrShort},
		{"no packet, then a wrong source", [][]byte{short, ps[0], other}, api.ErrShort},
		{"a wrong source at the end", [][]byte{ps[0], ps[1], other}, api.ErrRoute},
		{"a wrong source at the start", [][]byte{other, ps[0], ps[1]}, api.ErrRoute},
		{"a wrong source in the middle", [][]byte{ps[0], other, ps[1]}, api.ErrRoute},
		{"a wrong source of the same number", [][]byte{small(5, 3, ""), small(5, 4, "")}, api.ErrRoute},
		{"a wrong source, far away", [][]byte{small(5, 3, ""), small(500, 4, "")}, api.ErrRoute},
		{"a span of 109", [][]byte{small(65500, 3, ""), small(72, 3, "")}, api.OK},
		{"a span of 110", [][]byte{small(65500, 3, ""), small(73, 3, "")}, api.ErrSpan},
		{"a span of 110, the other way", [][]byte{small(73, 3, ""), small(65500, 3, "")}, api.ErrSpan},
		{"half the circle", [][]byte{small(0, 3, ""), small(32768, 3, "")}, api.ErrSpan},
		{"all around the circle", [][]byte{small(0, 3, ""), small(22000, 3, ""), small(44000, 3, "")}, api.ErrSpan},
		{"a span of 110 and a number twice", [][]byte{small(5, 3, ""), small(5, 3, ""), small(114, 3, "")}, api.ErrSpan},
		{"a number twice", [][]byte{ps[0], ps[1], ps[0]}, api.ErrTwice},
		{"a number twice, of other bytes", [][]byte{small(5, 3, "a"), small(5, 3, "b")}, api.ErrTwice},
		{"all bytes of a source", [][]byte{[]byte(first), []byte(second[:8] + "\x01" + second[9:])}, api.ErrRoute},
	} {
		if _, e := Make(c.packets); e != c.e {
			t.Errorf("%s: %d, want %d", c.name, e, c.e)
		}
		checkMake(t, c.packets)
		if r, e := Some(c.packets, all(len(c.packets))); e != c.e || e != api.OK && !equal(r, api.Repair{}) {
			t.Errorf("Some, %s: %+v %d", c.name, r, e)
		}
	}
}

// all is the indices of n elements.
func all(n int) []int {
	var list []int
	for i := range n {
		list = append(list, i)
	}
	return list
}

// P13.1, P13.2: packets in any order.
func TestMake(t *testing.T) {
	random := rand.New(rand.NewSource(1))
	for range 2000 {
		n := 1 + random.Intn(12)
		packets := randomPackets(t, random, n, 12+random.Intn(120))
		r, e := checkMake(t, packets)
		mixed := slices.Clone(packets)
		random.Shuffle(n, func(i, j int) { mixed[i], mixed[j] = mixed[j], mixed[i] })
		if s, f := Make(mixed); e != f || !equal(r, s) || Holds(r, mixed) != (e == api.OK) {
			t.Fatalf("%x: %+v %d, mixed %+v %d", packets, r, e, s, f)
		}
	}
	for range 50 {
		checkMake(t, randomPackets(t, random, 48, 109))
	}
}

// P13.2: one more packet is one more imprint.
func TestOneMore(t *testing.T) {
	random := rand.New(rand.NewSource(2))
	for range 500 {
		packets := randomPackets(t, random, 2+random.Intn(8), 109)
		for i, b := range packets {
			rest := slices.Delete(slices.Clone(packets), i, i+1)
			r, _ := Make(packets)
			s, e := Make(rest)
			x, f := imprint.Of(b)
			sum := imprint.Add(Bytes(s), x)
			if e != api.OK || f != api.OK || sum.Head != r.Head || !bytes.Equal(sum.Body, r.Body) {
				t.Fatalf("%x and %x: %+v, want %+v", rest, b, sum, r)
			}
		}
	}
}

// The imprints end where the caller stops, and come again.
func TestImprintsOf(t *testing.T) {
	xs := imprintsOf(two())
	for range 2 {
		count := 0
		for x := range xs {
			count++
			if !bytes.Equal(x.Body, []byte("ab")) {
				t.Errorf("%+v", x)
			}
			break
		}
		if count != 1 {
			t.Errorf("%d imprints", count)
		}
	}
}

// P1: bytes that are mostly not packets.
func TestAnyBytes(t *testing.T) {
	random := rand.New(rand.NewSource(3))
	for range 5000 {
		packets := randomPackets(t, random, 1+random.Intn(4), 8)
		b := packets[random.Intn(len(packets))]
		b[random.Intn(len(b))] = byte(random.Uint32())
		if random.Intn(3) == 0 {
			packets[random.Intn(len(packets))] = b[:random.Intn(len(b)+1)]
		}
		checkMake(t, packets)
	}
}

func TestSome(t *testing.T) {
	packets := [][]byte{small(8, 3, "abc"), small(5, 3, "de"), nil, small(6, 3, "f"), small(7, 9, "g"), []byte("\x40" + first[1:])}
	for _, c := range []struct {
		which []int
		e     api.Errno
	}{
		{nil, api.ErrNone}, {[]int{}, api.ErrNone},
		{[]int{0}, api.OK}, {[]int{1}, api.OK}, {[]int{0, 1, 3}, api.OK}, {[]int{3, 1, 0}, api.OK}, {[]int{3, 0}, api.OK},
		{[]int{-1}, api.ErrArg}, {[]int{6}, api.ErrArg}, {[]int{1 << 62}, api.ErrArg}, {[]int{-1 << 63}, api.ErrArg},
		{[]int{0, 1, 6}, api.ErrArg}, {[]int{0, 0}, api.ErrArg}, {[]int{0, 1, 0}, api.ErrArg}, {[]int{2, 2}, api.ErrArg},
		{[]int{0, 2, 6}, api.ErrArg}, {[]int{0, 4, 4}, api.ErrArg}, {[]int{5, 2, -1}, api.ErrArg},
		{[]int{0, 2}, api.ErrShort}, {[]int{0, 5, 2}, api.ErrForm}, {[]int{2, 0, 5}, api.ErrShort},
		{[]int{0, 4}, api.ErrRoute}, {[]int{4, 0, 5}, api.ErrForm}, {[]int{4}, api.OK},
	} {
		before, kept := cloneAll(packets), slices.Clone(c.which)
		r, e := Some(packets, c.which)
		var picked [][]byte
		for _, i := range c.which {
			if c.e != api.ErrArg {
				picked = append(picked, packets[i])
			}
		}
		want, _ := model(picked)
		if e != c.e || !equal(r, want) {
			t.Errorf("Some of %v: %+v %d, want %+v %d", c.which, r, e, want, c.e)
		}
		if !equalAll(packets, before) || !slices.Equal(c.which, kept) {
			t.Errorf("Some of %v changes its arguments", kept)
		}
	}
	if _, e := Some(nil, []int{0}); e != api.ErrArg {
		t.Errorf("Some of no packets: %d", e)
	}
	// An index that is wrong comes ahead of too many packets.
	many := row(0, 60)
	for _, c := range []struct {
		which []int
		e     api.Errno
	}{
		{all(48), api.OK}, {all(60)[12:], api.OK}, {all(49), api.ErrMany}, {all(60), api.ErrMany}, {all(61), api.ErrArg},
		{append(all(60), 59), api.ErrArg}, {append(all(60), -1), api.ErrArg}, {make([]int, 100), api.ErrArg},
	} {
		if _, e := Some(many, c.which); e != c.e {
			t.Errorf("Some of %v: %d, want %d", c.which, e, c.e)
		}
	}
}

func TestBlock(t *testing.T) {
	packets := append(row(65534, 5), nil, small(9, 7, ""))
	for _, c := range []struct {
		shape [][]int
		e     api.Errno
	}{
		{nil, api.OK}, {[][]int{}, api.OK}, {[][]int{{0}}, api.OK}, {[][]int{{0, 1}, {2}, {4, 3, 0}, {0, 1}}, api.OK},
		{[][]int{{0}, {}}, api.ErrNone}, {[][]int{nil, {9}}, api.ErrNone}, {[][]int{{0}, {9}, {}}, api.ErrArg},
		{[][]int{{0, 6}, {0, 0}}, api.ErrRoute}, {[][]int{{0}, {5}, {0, 6}}, api.ErrShort}, {[][]int{{1}, {6}}, api.OK},
	} {
		before := cloneAll(packets)
		rs, e := Block(packets, c.shape)
		if e != c.e || e == api.OK && len(rs) != len(c.shape) || e != api.OK && len(rs) != 0 {
			t.Fatalf("Block of %v: %d repairs, %d, want %d", c.shape, len(rs), e, c.e)
		}
		for i, r := range rs {
			var picked [][]byte
			for _, k := range c.shape[i] {
				picked = append(picked, packets[k])
			}
			if want, _ := model(picked); !equal(r, want) {
				t.Errorf("Block of %v: %+v, want %+v", c.shape, r, want)
			}
		}
		if !equalAll(packets, before) {
			t.Errorf("Block of %v changes its packets", c.shape)
		}
	}
	if rs, e := Block(nil, [][]int{{0}}); e != api.ErrArg || len(rs) != 0 {
		t.Errorf("Block of no packets: %v %d", rs, e)
	}
}

// P13.1: only the first two bits of Head don't count.
func TestHolds(t *testing.T) {
	packets := [][]byte{[]byte(full), small(70, 3, "abc\x00\x00"), small(100, 3, "")}
	r, e := Make(packets)
	if e != api.OK {
		t.Fatal(e)
	}
	for i := range 4 {
		s := r
		s.Head[0] |= byte(i << 6)
		if !Holds(s, packets) || !Holds(s, [][]byte{packets[2], packets[0], packets[1]}) {
			t.Errorf("with the first bits %d", i)
		}
	}
	for i := range 64 {
		s := r
		s.Head[i/8] ^= 0x80 >> (i % 8)
		if Holds(s, packets) != (i < 2) {
			t.Errorf("with another bit %d of Head", i)
		}
		for _, s := range []api.Repair{
			{Head: r.Head, Base: r.Base, Hi: r.Hi ^ 1<<i, Lo: r.Lo, Body: r.Body},
			{Head: r.Head, Base: r.Base, Hi: r.Hi, Lo: r.Lo ^ 1<<i, Body: r.Body},
			{Head: r.Head, Base: r.Base ^ 1<<(i%16), Hi: r.Hi, Lo: r.Lo, Body: r.Body},
		} {
			if Holds(s, packets) {
				t.Errorf("with another bit %d: %+v", i, s)
			}
		}
	}
	for i := range r.Body {
		s := r
		s.Body = bytes.Clone(r.Body)
		s.Body[i] ^= 1
		if Holds(s, packets) || Holds(api.Repair{Head: r.Head, Base: r.Base, Hi: r.Hi, Lo: r.Lo, Body: r.Body[:i]}, packets) {
			t.Errorf("with another byte %d, or with only those ahead of it", i)
		}
	}
	for i := range packets {
		if Holds(r, packets[:i]) || Holds(r, slices.Delete(slices.Clone(packets), i, i+1)) {
			t.Errorf("of fewer packets: %d", i)
		}
	}
	if Holds(r, append(slices.Clone(packets), small(71, 3, ""))) || Holds(r, append(slices.Clone(packets), packets[0])) {
		t.Error("of one more packet")
	}
	if Holds(api.Repair{}, nil) || Holds(api.Repair{}, [][]byte{nil}) || Holds(r, nil) {
		t.Error("of none")
	}
}

// P13.1: the length of Body is that of the longest imprint's, so zeros at its end count.
func TestHoldsZeros(t *testing.T) {
	packets := [][]byte{small(1, 3, "ab\x00"), small(2, 3, "c")}
	r, _ := Make(packets)
	if !bytes.Equal(r.Body, []byte("\x02b\x00")) || !Holds(r, packets) {
		t.Fatalf("%+v", r)
	}
	for _, body := range []string{"\x02b", "\x02b\x00\x00", "\x02b\x00\x01"} {
		s := r
		s.Body = []byte(body)
		if Holds(s, packets) {
			t.Errorf("with %q", body)
		}
	}
	same := [][]byte{small(1, 3, "ab"), small(2, 3, "ab")}
	if r, _ := Make(same); !bytes.Equal(r.Body, []byte{0, 0}) || !Holds(r, same) {
		t.Errorf("%+v", r)
	}
}

func TestBytes(t *testing.T) {
	for i := range 256 {
		r := api.Repair{Head: [8]byte{byte(i), 2, 3, 4, 5, 6, 7, 0xF8}, Base: 9, Hi: 7, Lo: 8, Body: []byte("ab\x00")}
		x := Bytes(r)
		if x.Head != [8]byte{byte(i % 64), 2, 3, 4, 5, 6, 7, 0xF8} || string(x.Body) != "ab\x00" {
			t.Errorf("%+v", x)
		}
		if r.Head[0] != byte(i) {
			t.Errorf("Bytes changes %d to %d", i, r.Head[0])
		}
	}
	if x := Bytes(api.Repair{}); x.Head != [8]byte{} || len(x.Body) != 0 {
		t.Errorf("%+v", x)
	}
}

func TestNumbers(t *testing.T) {
	if got := Numbers(nil); len(got) != 0 {
		t.Errorf("%v", got)
	}
	rs := []api.Repair{
		{Base: 65535, Hi: 0xA000000000000000}, {}, {Base: 65000, Hi: 1, Lo: 1<<63 | 1}, {Base: 7},
	}
	want := [][]uint16{{65535, 1}, nil, {65063, 65064, 65127}, nil}
	if got := Numbers(rs); !slices.EqualFunc(got, want, slices.Equal[[]uint16]) {
		t.Errorf("%v, want %v", got, want)
	}
	random := rand.New(rand.NewSource(4))
	for range 300 {
		packets := randomPackets(t, random, 1+random.Intn(20), 109)
		r, _ := Make(packets)
		got := Numbers([]api.Repair{{}, r})
		var seqs []uint16
		for _, b := range packets {
			seqs = append(seqs, uint16(seqOf(b)))
		}
		slices.SortFunc(seqs, func(a, b uint16) int { return ahead(int(a), int(b)) })
		if len(got) != 2 || len(got[0]) != 0 || !slices.Equal(got[1], seqs) {
			t.Fatalf("%v, want %v", got, seqs)
		}
	}
}

func scribble(b []byte) {
	b = b[:cap(b)]
	for i := range b {
		b[i] = 'x'
	}
}

// checkNew is given what makes the same bytes, which end with "ab", from the memory whole.
func checkNew(t *testing.T, name string, whole []byte, build func() []byte) {
	t.Helper()
	kept, want := bytes.Clone(whole), bytes.Clone(build())
	one, two := build(), build()
	scribble(one)
	if !bytes.Equal(whole, kept) {
		t.Errorf("%s: the result shares memory with the argument: %q", name, whole)
	}
	scribble(whole)
	if !bytes.HasSuffix(want, []byte("ab")) || !bytes.Equal(two, want) {
		t.Errorf("%s: %q, then %q", name, want, two)
	}
}

// P13.3: Body is new memory, with what lies behind its length.
func TestResultsAreNewMemory(t *testing.T) {
	whole := []byte("<" + first + ">>>")
	kept := bytes.Clone(whole)
	packets := [][]byte{whole[1 : 1+len(first)], []byte(second[:12])}
	for name, build := range map[string]func() []byte{
		"Make of one": func() []byte { r, _ := Make(packets[:1]); return r.Body },
		"Make of two": func() []byte { r, _ := Make(packets); return r.Body },
		"Some":        func() []byte { r, _ := Some(packets, []int{1, 0}); return r.Body },
		"Block":       func() []byte { rs, _ := Block(packets, [][]int{{0}, {1}}); return rs[0].Body },
		"Bytes":       func() []byte { return Bytes(api.Repair{Body: whole[len(first)-1 : len(first)+1]}).Body },
	} {
		copy(whole, kept)
		checkNew(t, name, whole, build)
	}
}

// P13.3: no two lists of one result share memory.
func TestListsAreApart(t *testing.T) {
	packets := row(1, 4)
	shape := [][]int{{0, 1}, {0, 1}, {2}}
	rs, e := Block(packets, shape)
	if e != api.OK {
		t.Fatal(e)
	}
	scribble(rs[0].Body)
	if want, _ := model(packets[:2]); !equal(rs[1], want) {
		t.Errorf("%+v", rs)
	}
	for i := range rs {
		rs[i].Body = nil
	}
	if !slices.EqualFunc(shape, [][]int{{0, 1}, {0, 1}, {2}}, slices.Equal[[]int]) {
		t.Errorf("%v", shape)
	}
	lists := Numbers(append(rs, rs...))
	for i := range lists[0][:cap(lists[0])] {
		lists[0][:cap(lists[0])][i] = 99
	}
	if !slices.Equal(lists[1], []uint16{1, 2}) || !slices.Equal(lists[3], []uint16{1, 2}) {
		t.Errorf("%v", lists)
	}
}

// P13.3: what lies behind the end of an argument stays as it is.
func TestArgumentsKeepTheirEnd(t *testing.T) {
	packets := append(row(1, 3), []byte("end"))
	which := []int{2, 0, 77}
	shape := [][]int{{0}, {1, 2}, {88}}
	rs := []api.Repair{{Hi: 1}, {Base: 99}}
	Some(packets[:3], which[:2])
	Block(packets[:3], shape[:2])
	Make(packets[:3])
	Holds(api.Repair{}, packets[:3])
	Numbers(rs[:1])
	if string(packets[3]) != "end" || which[2] != 77 || shape[2][0] != 88 || rs[1].Base != 99 {
		t.Errorf("%q %v %v %v", packets, which, shape, rs)
	}
}
