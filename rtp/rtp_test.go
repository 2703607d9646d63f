package rtp

import (
	"bytes"
	"math/rand"
	"slices"
	"strconv"
	"testing"

	"conflux/api"
)

const small = "\x80\x60\x00\x01\x00\x00\x00\x02\x00\x00\x00\x03A"

// full has all parts: two CSRC identifiers, two words of extension, a payload and three bytes of padding.
const full = "\xB2\xE0\x81\x92\xA3\xB4\xC5\xD6\xE7\xF8\x09\x1A" +
	"\x00\x00\x00\x09\xFF\xFE\xFD\xFC" + "\xBE\xDE\x00\x02stuvwxyz" + "hi" + "\x07\x08\x03"

// fullHeader is where the payload of full begins.
const fullHeader = 12 + 8 + 12

func fullPacket() api.Packet {
	return api.Packet{
		Marker: true, PT: 96, Seq: 0x8192, TS: 0xA3B4C5D6, SSRC: 0xE7F8091A, CSRC: []uint32{9, 0xFFFEFDFC},
		HasExt: true, Profile: 0xBEDE, Ext: []byte("stuvwxyz"), Payload: []byte("hi"), Pad: []byte{7, 8, 3},
	}
}

// padding is so many bytes of it.
func padding(n int) []byte {
	pad := bytes.Repeat([]byte{0xAB}, n)
	if n > 0 {
		pad[n-1] = byte(n)
	}
	return pad
}

// bits are the last digits of a number in base 2.
func bits(n uint64, size int) string {
	text := ""
	for i := size - 1; i >= 0; i-- {
		text += strconv.Itoa(int(n >> i & 1))
	}
	return text
}

func truth(on bool) uint64 {
	if on {
		return 1
	}
	return 0
}

// model is the encoding of a valid packet, put together bit by bit as the document lists them.
func model(t *testing.T, p api.Packet) []byte {
	t.Helper()
	text := "10" + bits(truth(len(p.Pad) > 0), 1) + bits(truth(p.HasExt), 1) + bits(uint64(len(p.CSRC)), 4) +
		bits(truth(p.Marker), 1) + bits(uint64(p.PT), 7) + bits(uint64(p.Seq), 16) + bits(uint64(p.TS), 32) + bits(uint64(p.SSRC), 32)
	for _, c := range p.CSRC {
		text += bits(uint64(c), 32)
	}
	if p.HasExt {
		text += bits(uint64(p.Profile), 16) + bits(uint64(len(p.Ext)/4), 16)
	}
	var b []byte
	for i := 0; i < len(text); i += 8 {
		n, err := strconv.ParseUint(text[i:i+8], 2, 8)
		if err != nil {
			t.Fatal(err)
		}
		b = append(b, byte(n))
	}
	return slices.Concat(b, p.Ext, p.Payload, p.Pad)
}

// valid is the document's definition of a valid packet.
func valid(p api.Packet) bool {
	return p.PT >= 0 && p.PT <= 127 && len(p.CSRC) <= 15 && len(p.Ext)%4 == 0 && len(p.Ext)/4 <= 65535 &&
		(p.HasExt || len(p.Ext) == 0 && p.Profile == 0) &&
		(len(p.Pad) == 0 || len(p.Pad) <= 255 && int(p.Pad[len(p.Pad)-1]) == len(p.Pad)) && Size(p) <= 1500
}

// fault is the error of Parse, worked out from where the parts would lie.
func fault(b []byte) api.Errno {
	switch {
	case len(b) > 1500:
		return api.ErrLong
	case len(b) > 0 && (b[0] < 0x80 || b[0] > 0xBF):
		return api.ErrForm
	case len(b) < 12:
		return api.ErrShort
	}
	end := 12 + 4*int(b[0]&15)
	if b[0]&16 != 0 {
		if len(b) < end+4 {
			return api.ErrShort
		}
		end += 4 + 4*(256*int(b[end+2])+int(b[end+3]))
	}
	if len(b) < end {
		return api.ErrShort
	}
	if b[0]&32 != 0 {
		if last := int(b[len(b)-1]); last == 0 || last > len(b)-end {
			return api.ErrForm
		}
	}
	return api.OK
}

// check holds Parse of bytes, and what goes with it, against the document.
func check(t *testing.T, b []byte) {
	t.Helper()
	before := bytes.Clone(b)
	p, e := Parse(b)
	want := fault(b)
	if e != want {
		t.Fatalf("Parse(%x): %d, want %d", b, e, want)
	}
	seq, hasSeq := Seq(b)
	ssrc, hasSSRC := SSRC(b)
	pt, hasPT := PT(b)
	if ok := e == api.OK; hasSeq != ok || hasSSRC != ok || hasPT != ok || seq != p.Seq || ssrc != p.SSRC || pt != p.PT {
		t.Fatalf("%x: Seq %d %v, SSRC %d %v, PT %d %v", b, seq, hasSeq, ssrc, hasSSRC, pt, hasPT)
	}
	if !bytes.Equal(b, before) {
		t.Fatalf("Parse changes %x to %x", before, b)
	}
	if e != api.OK {
		if !Same(p, api.Packet{}) {
			t.Fatalf("Parse(%x): %+v beside %d", b, p, e)
		}
		return
	}
	if !valid(p) || Size(p) != len(b) || !bytes.Equal(model(t, p), b) {
		t.Fatalf("Parse(%x): %+v", b, p)
	}
	if again, e := Write(p); e != api.OK || !bytes.Equal(again, b) {
		t.Fatalf("%x is written as %x %d", b, again, e)
	}
}

func TestExample(t *testing.T) {
	p, e := Parse([]byte(small))
	if want := (api.Packet{PT: 96, Seq: 1, TS: 2, SSRC: 3, Payload: []byte("A")}); e != api.OK || !Same(p, want) {
		t.Errorf("%+v %d", p, e)
	}
	if b, e := Write(p); e != api.OK || string(b) != small {
		t.Errorf("%x %d", b, e)
	}
}

func TestAllParts(t *testing.T) {
	p, e := Parse([]byte(full))
	if e != api.OK || !Same(p, fullPacket()) {
		t.Errorf("%+v %d", p, e)
	}
	if b, e := Write(fullPacket()); e != api.OK || string(b) != full || Size(fullPacket()) != len(full) {
		t.Errorf("%x %d, size %d", b, e, Size(fullPacket()))
	}
}

// Only a header can be cut off: a shorter payload is another packet, unless it has padding.
func TestEveryLength(t *testing.T) {
	unpadded := "\x92" + full[1:]
	for n := range len(full) + 1 {
		wantFull, wantUnpadded := api.ErrForm, api.OK
		if n == len(full) {
			wantFull = api.OK
		}
		if n < fullHeader {
			wantFull, wantUnpadded = api.ErrShort, api.ErrShort
		}
		// As padding, 'h', 'i', 7 and 8 are too long for what is left.
		if _, e := Parse([]byte(full[:n])); e != wantFull {
			t.Errorf("%d bytes, with padding: %d", n, e)
		}
		if p, e := Parse([]byte(unpadded[:n])); e != wantUnpadded || e == api.OK && string(p.Payload) != unpadded[fullHeader:n] {
			t.Errorf("%d bytes: %+v %d", n, p, e)
		}
		check(t, []byte(full[:n]))
		check(t, []byte(unpadded[:n]))
	}
}

// All values of the first two bytes, with so many bytes behind them.
func TestFirstBytes(t *testing.T) {
	for i := range 1 << 16 {
		b := append([]byte{byte(i >> 8), byte(i)}, full[2:]...)
		for _, n := range []int{0, 1, 2, 11, 12, 24, len(full)} {
			p, e := Parse(b[:n])
			if e != fault(b[:n]) {
				t.Fatalf("Parse(%x): %d", b[:n], e)
			}
			if e == api.OK && (p.Marker != (b[1] >= 128) || p.PT != int(b[1])%128) {
				t.Fatalf("Parse(%x): %+v", b[:n], p)
			}
		}
	}
}

func TestOrderOfParseErrors(t *testing.T) {
	long := func(first string) string { return first + string(make([]byte, 1501-len(first))) }
	for _, c := range []struct {
		name, b string
		e       api.Errno
	}{
		{"too long, with another version", long("\x00"), api.ErrLong},
		{"too long", long(small), api.ErrLong},
		{"too long, with padding that isn't valid", long("\xA0"), api.ErrLong},
		{"as long as may be", long(small)[:1500], api.OK},
		{"as long as may be, with another version", long("\xC0")[:1500], api.ErrForm},
		{"no bytes", "", api.ErrShort},
		{"version 0", "\x3F", api.ErrForm},
		{"version 1", "\x40", api.ErrForm},
		{"version 1, complete", "\x60" + small[1:12] + "\x00", api.ErrForm},
		{"version 3", "\xFF", api.ErrForm},
		{"version 2", "\xBF", api.ErrShort},
		{"no CSRC identifiers, and no padding", "\xA1" + small[1:12], api.ErrShort},
		{"an extension that is cut off, and no padding", "\xB0" + small[1:12] + "\xBE\xDE\x00\x01abc", api.ErrShort},
		{"an extension without its length", "\x90" + small[1:12] + "\xBE\xDE\x00", api.ErrShort},
		{"the greatest extension", "\x90" + small[1:12] + "\xBE\xDE\xFF\xFF" + long("")[:1484], api.ErrShort},
		{"an empty extension", "\x90" + small[1:12] + "\xBE\xDE\x00\x00", api.OK},
		{"padding of no bytes", "\xA0" + small[1:12], api.ErrForm},
		{"padding that would reach into the header", "\xA0" + small[1:12] + "\x02", api.ErrForm},
		{"padding that would reach into the extension", "\xB0" + small[1:12] + "\xBE\xDE\x00\x01abcd\x02", api.ErrForm},
		{"padding of 0", "\xA0" + small[1:12] + "abc\x00", api.ErrForm},
		{"padding alone", "\xA0" + small[1:12] + "\x01", api.OK},
	} {
		if _, e := Parse([]byte(c.b)); e != c.e {
			t.Errorf("%s: %d, want %d", c.name, e, c.e)
		}
		check(t, []byte(c.b))
	}
}

// Each last byte, behind so many others.
func TestPadding(t *testing.T) {
	for n := range 300 {
		for last := range 256 {
			b := append([]byte("\xA0"+small[1:12]), bytes.Repeat([]byte{byte(n)}, n)...)
			b = append(b, byte(last))
			p, e := Parse(b)
			if last == 0 || last > n+1 {
				if e != api.ErrForm {
					t.Fatalf("%d behind %d bytes: %d", last, n, e)
				}
				continue
			}
			if e != api.OK || len(p.Pad) != last || len(p.Payload) != n+1-last || !bytes.Equal(slices.Concat(p.Payload, p.Pad), b[12:]) {
				t.Fatalf("%d behind %d bytes: %+v %d", last, n, p, e)
			}
		}
	}
}

func TestOrderOfWriteErrors(t *testing.T) {
	many, long := make([]uint32, 16), make([]byte, 1489)
	for _, c := range []struct {
		name string
		p    api.Packet
		e    api.Errno
	}{
		{"the zero value", api.Packet{}, api.OK},
		{"the least PT", api.Packet{PT: 0}, api.OK},
		{"the greatest PT", api.Packet{PT: 127}, api.OK},
		{"PT 128", api.Packet{PT: 128}, api.ErrArg},
		{"PT -1", api.Packet{PT: -1}, api.ErrArg},
		{"PT 352", api.Packet{PT: 256 + 96}, api.ErrArg},
		{"an extension of a word", api.Packet{HasExt: true, Ext: []byte("abcd")}, api.OK},
		{"an extension of no words", api.Packet{HasExt: true, Profile: 7}, api.OK},
		{"an extension of 1 byte", api.Packet{HasExt: true, Ext: []byte("a")}, api.ErrArg},
		{"an extension of 6 bytes", api.Packet{HasExt: true, Ext: []byte("abcdef")}, api.ErrArg},
		{"an extension that isn't there", api.Packet{Ext: []byte("abcd")}, api.ErrArg},
		{"the profile of none", api.Packet{Profile: 1}, api.ErrArg},
		{"an extension of 65535 words", api.Packet{HasExt: true, Ext: make([]byte, 4*65535)}, api.ErrLong},
		{"an extension of 65536 words", api.Packet{HasExt: true, Ext: make([]byte, 4*65536)}, api.ErrArg},
		{"padding of 1", api.Packet{Pad: padding(1)}, api.OK},
		{"padding of 255", api.Packet{Pad: padding(255)}, api.OK},
		{"padding of 256", api.Packet{Pad: padding(256)}, api.ErrArg},
		{"padding of 257 that ends with 1", api.Packet{Pad: padding(257)}, api.ErrArg},
		{"padding that ends with 0", api.Packet{Pad: []byte{0}}, api.ErrArg},
		{"padding that ends with more", api.Packet{Pad: []byte{0, 3}}, api.ErrArg},
		{"padding that ends with less", api.Packet{Pad: []byte{2, 1}}, api.ErrArg},
		{"15 CSRC identifiers", api.Packet{CSRC: many[:15]}, api.OK},
		{"16 CSRC identifiers", api.Packet{CSRC: many}, api.ErrMany},
		{"a payload of 1488 bytes", api.Packet{Payload: long[:1488]}, api.OK},
		{"a payload of 1489 bytes", api.Packet{Payload: long}, api.ErrLong},
		{"all parts, 1500 bytes", api.Packet{CSRC: many[:15], HasExt: true, Ext: long[:400], Payload: long[:769], Pad: padding(255)}, api.OK},
		{"all parts, 1501 bytes", api.Packet{CSRC: many[:15], HasExt: true, Ext: long[:400], Payload: long[:770], Pad: padding(255)}, api.ErrLong},
		{"PT and CSRC", api.Packet{PT: 128, CSRC: many, Payload: long}, api.ErrArg},
		{"extension and CSRC", api.Packet{HasExt: true, Ext: []byte("abc"), CSRC: many, Payload: long}, api.ErrArg},
		{"profile and CSRC", api.Packet{Profile: 1, CSRC: many, Payload: long}, api.ErrArg},
		{"padding and CSRC", api.Packet{Pad: []byte{2}, CSRC: many, Payload: long}, api.ErrArg},
		{"CSRC and length", api.Packet{CSRC: many, Payload: long}, api.ErrMany},
	} {
		b, e := Write(c.p)
		if e != c.e {
			t.Errorf("%s: %d, want %d", c.name, e, c.e)
		}
		if want := valid(c.p); (e == api.OK) != want {
			t.Errorf("%s: %d, but valid is %v", c.name, e, want)
		}
		if e != api.OK && len(b) != 0 {
			t.Errorf("%s: %d bytes beside %d", c.name, len(b), e)
		}
		if e == api.OK && !bytes.Equal(b, model(t, c.p)) {
			t.Errorf("%s: %x", c.name, b)
		}
	}
}

// What is not encoded isn't counted, and what is wrong with a packet doesn't matter.
func TestSizeOfAnyPacket(t *testing.T) {
	for _, c := range []struct {
		p    api.Packet
		want int
	}{
		{api.Packet{}, 12},
		{api.Packet{PT: -5, Seq: 1, TS: 2, SSRC: 3, Marker: true}, 12},
		{api.Packet{CSRC: make([]uint32, 3)}, 24},
		{api.Packet{CSRC: make([]uint32, 100)}, 412},
		{api.Packet{HasExt: true}, 16},
		{api.Packet{HasExt: true, Ext: make([]byte, 8)}, 24},
		{api.Packet{HasExt: true, Ext: make([]byte, 400000)}, 400016},
		{api.Packet{Ext: make([]byte, 8), Profile: 3}, 12},
		{api.Packet{Payload: make([]byte, 5000)}, 5012},
		{api.Packet{Pad: make([]byte, 300)}, 312},
		{api.Packet{CSRC: make([]uint32, 1), HasExt: true, Ext: make([]byte, 4), Payload: make([]byte, 5), Pad: make([]byte, 6)}, 35},
	} {
		if got := Size(c.p); got != c.want {
			t.Errorf("Size(%+v) = %d, want %d", c.p, got, c.want)
		}
	}
}

func randomBytes(random *rand.Rand, n int) []byte {
	b := make([]byte, n)
	random.Read(b)
	return b
}

func randomPacket(random *rand.Rand) api.Packet {
	p := api.Packet{
		Marker: random.Intn(2) == 0, PT: random.Intn(128), Seq: uint16(random.Uint32()), TS: random.Uint32(), SSRC: random.Uint32(),
		Payload: randomBytes(random, random.Intn(40)),
	}
	for range random.Intn(16) {
		p.CSRC = append(p.CSRC, random.Uint32())
	}
	if random.Intn(2) == 0 {
		p.HasExt, p.Profile, p.Ext = true, uint16(random.Uint32()), randomBytes(random, 4*random.Intn(20))
	}
	if random.Intn(2) == 0 {
		p.Pad = padding(1 + random.Intn(255))
	}
	return p
}

// P5.2, P5: what is written is read back, and the other way round.
func TestWrittenIsParsedBack(t *testing.T) {
	random := rand.New(rand.NewSource(1))
	for range 2000 {
		p := randomPacket(random)
		b, e := Write(p)
		if e != api.OK || !bytes.Equal(b, model(t, p)) || Size(p) != len(b) {
			t.Fatalf("Write(%+v): %x %d", p, b, e)
		}
		if q, e := Parse(b); e != api.OK || !Same(q, p) {
			t.Fatalf("%+v is parsed back as %+v %d", p, q, e)
		}
		check(t, b)
	}
}

func TestAnyBytes(t *testing.T) {
	random := rand.New(rand.NewSource(2))
	for range 20000 {
		b, _ := Write(randomPacket(random))
		// Small counts, so that what is damaged is often a packet all the same.
		for range 1 + random.Intn(3) {
			b[random.Intn(len(b))] = byte(random.Intn(256) >> random.Intn(8))
		}
		b[0] = b[0]&63 | byte(random.Intn(9)/3+1)<<6
		check(t, b[:random.Intn(len(b)+1)])
		check(t, b)
		check(t, randomBytes(random, random.Intn(60)))
	}
}

// others are packets that differ from fullPacket in one field each.
func others() map[string]api.Packet {
	list := map[string]api.Packet{}
	for name, change := range map[string]func(p *api.Packet){
		"Marker":         func(p *api.Packet) { p.Marker = false },
		"PT":             func(p *api.Packet) { p.PT += 256 },
		"Seq":            func(p *api.Packet) { p.Seq++ },
		"TS":             func(p *api.Packet) { p.TS++ },
		"SSRC":           func(p *api.Packet) { p.SSRC++ },
		"CSRC":           func(p *api.Packet) { p.CSRC[1]++ },
		"CSRC, fewer":    func(p *api.Packet) { p.CSRC = p.CSRC[:1] },
		"HasExt":         func(p *api.Packet) { p.HasExt = false },
		"Profile":        func(p *api.Packet) { p.Profile++ },
		"Ext":            func(p *api.Packet) { p.Ext[7]++ },
		"Ext, shorter":   func(p *api.Packet) { p.Ext = p.Ext[:7] },
		"Payload":        func(p *api.Packet) { p.Payload[1]++ },
		"Payload, none":  func(p *api.Packet) { p.Payload = nil },
		"Payload, later": func(p *api.Packet) { p.Payload, p.Pad = []byte("hi\x07"), []byte{8, 3} },
		"Pad":            func(p *api.Packet) { p.Pad[0]++ },
		"Pad, longer":    func(p *api.Packet) { p.Pad = append(p.Pad, 0) },
	} {
		p := fullPacket()
		change(&p)
		list[name] = p
	}
	return list
}

func TestSame(t *testing.T) {
	p := fullPacket()
	if !Same(p, fullPacket()) || !Same(api.Packet{}, api.Packet{}) {
		t.Error("equal packets aren't the same")
	}
	for name, q := range others() {
		if Same(p, q) || Same(q, p) || !Same(q, q) {
			t.Errorf("%s: Same", name)
		}
	}
	empty := api.Packet{CSRC: []uint32{}, Ext: []byte{}, Payload: []byte{}, Pad: []byte{}}
	if !Same(empty, api.Packet{}) || !Same(api.Packet{}, empty) {
		t.Error("empty and nil aren't the same")
	}
}

// scribble overwrites all memory that a packet has.
func scribble(p api.Packet) {
	for _, b := range [][]byte{p.Ext, p.Payload, p.Pad} {
		b = b[:cap(b)]
		for i := range b {
			b[i] = 'x'
		}
	}
	c := p.CSRC[:cap(p.CSRC)]
	for i := range c {
		c[i] = 77
	}
}

func TestClone(t *testing.T) {
	list := others()
	list["none"] = api.Packet{}
	list["empty"] = api.Packet{CSRC: []uint32{}, Ext: []byte{}, Payload: []byte{}, Pad: []byte{}}
	list["full"] = fullPacket()
	for name, p := range list {
		q, r := Clone(p), Clone(p)
		if !Same(q, p) {
			t.Errorf("%s: Clone is %+v", name, q)
		}
		scribble(q)
		if !Same(r, p) {
			t.Errorf("%s: the copy shares memory", name)
		}
		scribble(p)
		if name == "full" && !Same(r, fullPacket()) {
			t.Errorf("%s: the copy retains memory: %+v", name, r)
		}
	}
}

// Memory behind the length of a slice isn't the copy's either.
func TestCloneOfAPart(t *testing.T) {
	all := []byte("abcdef")
	numbers := []uint32{1, 2, 3, 4}
	p := api.Packet{CSRC: numbers[:0], Ext: all[:2], Payload: all[2:3], Pad: all[4:4]}
	q := Clone(p)
	scribble(q)
	if string(all) != "abcdef" || !slices.Equal(numbers, []uint32{1, 2, 3, 4}) {
		t.Errorf("%q %v", all, numbers)
	}
	q = Clone(p)
	_ = append(q.Ext, "xyz"...)
	_ = append(q.Pad, "xyz"...)
	if string(all) != "abcdef" || string(q.Payload) != "c" {
		t.Errorf("%q %q", all, q.Payload)
	}
}

// P5.3: a packet that is parsed has memory of its own, each part of it too.
func TestParsedIsNewMemory(t *testing.T) {
	all := []byte("<" + full + ">>>")
	b := all[1 : 1+len(full)]
	p, _ := Parse(b)
	kept := fullPacket()
	p.Payload = append(p.Payload, "xyz"...)
	p.Ext = append(p.Ext, "xyz"...)
	p.CSRC = append(p.CSRC, 5)
	if string(p.Pad) != string(kept.Pad) || string(p.Payload) != "hixyz" || string(p.Ext) != "stuvwxyzxyz" {
		t.Errorf("parts share memory: %+v", p)
	}
	for part := range 3 {
		p, _ := Parse(b)
		parts := [][]byte{p.Ext, p.Payload, p.Pad}
		scribble(api.Packet{Ext: parts[part]})
		want := [][]byte{kept.Ext, kept.Payload, kept.Pad}
		want[part] = parts[part]
		if !slices.EqualFunc(parts, want, bytes.Equal) || !slices.Equal(p.CSRC, kept.CSRC) {
			t.Errorf("part %d shares memory: %+v", part, p)
		}
	}
	p, _ = Parse(b)
	q, _ := Parse(b)
	scribble(p)
	if string(all) != "<"+full+">>>" {
		t.Errorf("a packet shares memory with its bytes: %q", all)
	}
	clear(all)
	if !Same(q, kept) {
		t.Errorf("a packet retains its bytes: %+v", q)
	}
}

func TestWrittenIsNewMemory(t *testing.T) {
	p := fullPacket()
	p.Ext = append(p.Ext, "spare"...)[:8]
	first, _ := Write(p)
	second, _ := Write(p)
	spare := first[:cap(first)]
	for i := range spare {
		spare[i] = 'x'
	}
	if !Same(p, fullPacket()) || string(p.Ext[:13]) != "stuvwxyzspare" {
		t.Errorf("Write shares memory with its packet: %+v", p)
	}
	scribble(p)
	if string(second) != full {
		t.Errorf("Write retains its packet: %q", second)
	}
}

// Fields of bytes that aren't a packet are nothing, even where they could be read.
func TestFieldsOfNoPacket(t *testing.T) {
	for _, b := range []string{"", "\x80", small[:11], "\x40" + small[1:], "\x81" + small[1:12], "\xA0" + small[1:12] + "\x00", small + string(make([]byte, 1488))} {
		check(t, []byte(b))
		if n, ok := Seq([]byte(b)); n != 0 || ok {
			t.Errorf("Seq(%x): %d %v", b, n, ok)
		}
		if n, ok := SSRC([]byte(b)); n != 0 || ok {
			t.Errorf("SSRC(%x): %d %v", b, n, ok)
		}
		if n, ok := PT([]byte(b)); n != 0 || ok {
			t.Errorf("PT(%x): %d %v", b, n, ok)
		}
	}
}

func TestFields(t *testing.T) {
	b := []byte(full)
	seq, hasSeq := Seq(b)
	ssrc, hasSSRC := SSRC(b)
	pt, hasPT := PT(b)
	if seq != 0x8192 || ssrc != 0xE7F8091A || pt != 96 || !hasSeq || !hasSSRC || !hasPT {
		t.Errorf("%x %v, %x %v, %d %v", seq, hasSeq, ssrc, hasSSRC, pt, hasPT)
	}
}

func TestIsRTCP(t *testing.T) {
	for i := range 1 << 16 {
		first, second := byte(i>>8), byte(i)
		want := first >= 0x80 && first < 0xC0 && second >= 192 && second <= 223
		for _, rest := range []int{0, 1, 20, 3000} {
			if i%7 != 0 && rest > 1 {
				continue
			}
			if got := IsRTCP(append([]byte{first, second}, make([]byte, rest)...)); got != want {
				t.Fatalf("IsRTCP(%x %x and %d bytes) = %v", first, second, rest, got)
			}
		}
	}
	if IsRTCP(nil) || IsRTCP([]byte{}) || IsRTCP([]byte{0x80}) || IsRTCP([]byte{0x80, 200}[:1]) {
		t.Error("too few bytes")
	}
	// Parse takes such bytes for a packet.
	b := []byte("\x80\xC8" + small[2:])
	if p, e := Parse(b); e != api.OK || p.PT != 72 || !p.Marker || !IsRTCP(b) {
		t.Errorf("%+v %d", p, e)
	}
}
