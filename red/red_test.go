package red

import (
	"bytes"
	"math"
	"math/rand"
	"slices"
	"strings"
	"testing"

	"conflux/api"
	"conflux/rtp"
)

const chain = "\xE1\x00\x08\x02\x60ABC"

func chainBlocks() []api.Block {
	return []api.Block{{PT: 97, Offset: 2, Data: []byte("AB")}, {PT: 96, Data: []byte("C")}}
}

func same(a, b api.Block) bool {
	return a.PT == b.PT && a.Offset == b.Offset && bytes.Equal(a.Data, b.Data)
}

// model is the encoding of valid blocks, by the document's weights of the bits.
func model(bs []api.Block) []byte {
	var heads, data []byte
	for i, b := range bs {
		if i < len(bs)-1 {
			n := 1<<31 + b.PT*1<<24 + b.Offset*1<<10 + len(b.Data)
			heads = append(heads, byte(n/(1<<24)), byte(n/(1<<16)), byte(n/(1<<8)), byte(n))
		} else {
			heads = append(heads, byte(b.PT))
		}
		data = append(data, b.Data...)
	}
	return append(heads, data...)
}

// fault is the error of Parse, worked out from where the parts would lie.
func fault(b []byte) api.Errno {
	at, count, data := 0, 0, 0
	for more := true; more; {
		if at >= len(b) {
			return api.ErrShort
		}
		more = b[at] >= 128
		if more {
			if at+4 > len(b) {
				return api.ErrShort
			}
			data += int(b[at+2]%4)*256 + int(b[at+3])
			at += 4
		} else {
			at++
		}
		count++
		if count > 8 {
			return api.ErrMany
		}
	}
	if at+data > len(b) {
		return api.ErrShort
	}
	return api.OK
}

// check holds all that is read from bytes against the document.
func check(t *testing.T, b []byte) {
	t.Helper()
	before := bytes.Clone(b)
	bs, e := Parse(b)
	if want := fault(b); e != want {
		t.Fatalf("Parse(%x): %d, want %d", b, e, want)
	}
	p := api.Packet{Marker: true, PT: 200, Seq: 5, TS: 1000, SSRC: 3, CSRC: []uint32{4}, HasExt: true, Profile: 6, Ext: []byte("abc"), Payload: b, Pad: []byte("d")}
	main, mainE := Primary(p)
	older, olderE := Older(p)
	if mainE != e || olderE != e || !bytes.Equal(b, before) {
		t.Fatalf("%x: Primary %d, Older %d, Parse %d", before, mainE, olderE, e)
	}
	if e != api.OK {
		if len(bs) != 0 || len(older) != 0 || !rtp.Same(main, api.Packet{}) {
			t.Fatalf("%x: %+v, %+v, %+v beside %d", b, bs, main, older, e)
		}
		return
	}
	last := bs[len(bs)-1]
	if !bytes.Equal(model(bs), b) || len(bs) > 8 || last.Offset != 0 {
		t.Fatalf("Parse(%x): %+v", b, bs)
	}
	want := rtp.Clone(p)
	want.PT, want.Payload = last.PT, last.Data
	if !rtp.Same(main, want) {
		t.Fatalf("Primary of %x: %+v", b, main)
	}
	if len(older) != len(bs)-1 {
		t.Fatalf("Older of %x: %+v", b, older)
	}
	for i, q := range older {
		if !rtp.Same(q, api.Packet{PT: bs[i].PT, TS: uint32((1<<32 + 1000 - bs[i].Offset) % (1 << 32)), SSRC: 3, Payload: bs[i].Data}) {
			t.Fatalf("Older of %x: %+v", b, older)
		}
	}
	again, e := Write(bs)
	if len(b) > 1500 {
		if e != api.ErrLong {
			t.Fatalf("%d bytes are written again: %d", len(b), e)
		}
	} else if e != api.OK || !bytes.Equal(again, b) {
		t.Fatalf("%x is written as %x %d", b, again, e)
	}
}

func TestExample(t *testing.T) {
	bs, e := Parse([]byte(chain))
	if e != api.OK || !slices.EqualFunc(bs, chainBlocks(), same) {
		t.Errorf("%+v %d", bs, e)
	}
	if b, e := Write(chainBlocks()); e != api.OK || string(b) != chain {
		t.Errorf("%x %d", b, e)
	}
}

// head is a header of a block that isn't the last one, of no data.
const head = "\xE1\x00\x00\x00"

func TestParse(t *testing.T) {
	for _, c := range []struct {
		name, b string
		e       api.Errno
	}{
		{"no bytes", "", api.ErrShort},
		{"a last block of no data", "\x60", api.OK},
		{"a last block", "\x7Fabc", api.OK},
		{"a last block of more than a packet", "\x60" + strings.Repeat("a", 5000), api.OK},
		{"1 byte of a header", "\xE1", api.ErrShort},
		{"2 bytes of a header", "\xE1\x00", api.ErrShort},
		{"3 bytes of a header", "\xE1\x00\x00", api.ErrShort},
		{"no last header", head, api.ErrShort},
		{"no last header, but as many bytes as data", "\xE1\x00\x00\x01", api.ErrShort},
		{"a block of no data", head + "\x60", api.OK},
		{"data that is cut off", "\xE1\x00\x08\x02\x60A", api.ErrShort},
		{"data that is there, without any for the last block", "\xE1\x00\x08\x02\x60AB", api.OK},
		{"data of the second block that is cut off", "\xE1\x00\x08\x02\xE2\x00\x08\x02\x60ABC", api.ErrShort},
		{"the most data", "\xFF\xFF\xFF\xFF\x60" + strings.Repeat("a", 1023), api.OK},
		{"the most data but one", "\xFF\xFF\xFF\xFF\x60" + strings.Repeat("a", 1022), api.ErrShort},
		{"eight blocks", strings.Repeat(head, 7) + "\x60", api.OK},
		{"eight blocks with data", strings.Repeat("\xE1\x00\x04\x01", 7) + "\x60abcdefgh", api.OK},
		{"eight headers, and nothing behind", strings.Repeat(head, 8), api.ErrShort},
		{"nine blocks", strings.Repeat(head, 8) + "\x60", api.ErrMany},
		{"nine blocks, without data", strings.Repeat("\xE1\x00\x04\x01", 8) + "\x60", api.ErrMany},
		{"a part of a ninth header", strings.Repeat(head, 8) + head[:3], api.ErrShort},
		{"a ninth header and nothing behind", strings.Repeat(head, 9), api.ErrMany},
		{"many headers", strings.Repeat(head, 300), api.ErrMany},
		{"a chain and more", chain + "more", api.OK},
	} {
		if _, e := Parse([]byte(c.b)); e != c.e {
			t.Errorf("%s: %d, want %d", c.name, e, c.e)
		}
		check(t, []byte(c.b))
	}
}

// The parts of a header, each at its least and its greatest.
func TestHeader(t *testing.T) {
	data := strings.Repeat("d", 1023)
	for _, pt := range []int{0, 1, 64, 127} {
		for _, offset := range []int{0, 1, 63, 64, 255, 256, 8192, 16383} {
			for _, size := range []int{0, 1, 255, 256, 1023} {
				bs := []api.Block{{PT: pt, Offset: offset, Data: []byte(data[:size])}, {PT: 127 - pt, Data: []byte("e")}}
				b, e := Write(bs)
				if e != api.OK || !bytes.Equal(b, model(bs)) {
					t.Fatalf("PT %d, Offset %d, %d bytes: %x %d", pt, offset, size, b, e)
				}
				check(t, b)
				if got, e := Parse(b); e != api.OK || !slices.EqualFunc(got, bs, same) {
					t.Fatalf("PT %d, Offset %d, %d bytes: %+v %d", pt, offset, size, got, e)
				}
			}
		}
	}
}

func TestEveryLength(t *testing.T) {
	b := []byte("\xE1\xFF\xF8\x02\x82\x00\x04\x00\x83\x00\x0C\x03\x60abcdefg")
	for n := range len(b) + 1 {
		want := api.ErrShort
		if n >= 13+5 {
			want = api.OK
		}
		if _, e := Parse(b[:n]); e != want {
			t.Errorf("%d bytes: %d", n, e)
		}
		check(t, b[:n])
	}
}

func TestOrderOfWriteErrors(t *testing.T) {
	data := func(n int) []byte { return make([]byte, n) }
	for _, c := range []struct {
		name string
		bs   []api.Block
		e    api.Errno
	}{
		{"none", nil, api.ErrNone},
		{"none of an empty list", []api.Block{}, api.ErrNone},
		{"the zero block", []api.Block{{}}, api.OK},
		{"8 blocks", make([]api.Block, 8), api.OK},
		{"9 blocks", make([]api.Block, 9), api.ErrMany},
		{"9 blocks that aren't valid", slices.Repeat([]api.Block{{PT: 128, Data: data(1600)}}, 9), api.ErrMany},
		{"PT 127", []api.Block{{PT: 127}, {PT: 127}}, api.OK},
		{"PT 128", []api.Block{{PT: 128}}, api.ErrArg},
		{"PT -1", []api.Block{{PT: -1}}, api.ErrArg},
		{"PT 128 of an older block", []api.Block{{PT: 128}, {}}, api.ErrArg},
		{"PT -1 of an older block", []api.Block{{}, {PT: -1}, {}}, api.ErrArg},
		{"PT 352", []api.Block{{PT: 352}, {}}, api.ErrArg},
		{"Offset 16383", []api.Block{{Offset: 16383}, {}}, api.OK},
		{"Offset 16384", []api.Block{{Offset: 16384}, {}}, api.ErrArg},
		{"Offset -1", []api.Block{{Offset: -1}, {}}, api.ErrArg},
		{"the least Offset", []api.Block{{Offset: math.MinInt}, {}}, api.ErrArg},
		{"the last Offset 1", []api.Block{{Offset: 1}}, api.ErrArg},
		{"the last Offset 1 of two", []api.Block{{}, {Offset: 1}}, api.ErrArg},
		{"the last Offset -1", []api.Block{{}, {Offset: -1}}, api.ErrArg},
		{"a block of 1023 bytes", []api.Block{{Data: data(1023)}, {}}, api.OK},
		{"a block of 1024 bytes", []api.Block{{Data: data(1024)}, {}}, api.ErrLong},
		{"a second block of 1024 bytes", []api.Block{{}, {Data: data(1024)}, {}}, api.ErrLong},
		{"a last block of 1024 bytes", []api.Block{{}, {Data: data(1024)}}, api.OK},
		{"1500 bytes", []api.Block{{Data: data(1499)}}, api.OK},
		{"1501 bytes", []api.Block{{Data: data(1500)}}, api.ErrLong},
		{"1500 bytes of three blocks", []api.Block{{Data: data(700)}, {Data: data(400)}, {Data: data(391)}}, api.OK},
		{"1501 bytes of three blocks", []api.Block{{Data: data(700)}, {Data: data(400)}, {Data: data(392)}}, api.ErrLong},
		{"ErrArg behind ErrLong", []api.Block{{Data: data(1024)}, {PT: 128}}, api.ErrArg},
		{"ErrArg of the last Offset behind ErrLong", []api.Block{{Data: data(1600)}, {Offset: 1}}, api.ErrArg},
		{"ErrArg of an Offset and ErrLong", []api.Block{{Offset: 16384, Data: data(1600)}, {}}, api.ErrArg},
	} {
		b, e := Write(c.bs)
		if e != c.e {
			t.Errorf("%s: %d, want %d", c.name, e, c.e)
		}
		if e != api.OK {
			if len(b) != 0 {
				t.Errorf("%s: %d bytes beside %d", c.name, len(b), e)
			}
			continue
		}
		if !bytes.Equal(b, model(c.bs)) {
			t.Errorf("%s: %x", c.name, b)
		}
		if got, e := Parse(b); e != api.OK || !slices.EqualFunc(got, c.bs, same) {
			t.Errorf("%s: parsed back as %+v %d", c.name, got, e)
		}
	}
}

func randomBytes(random *rand.Rand, n int) []byte {
	b := make([]byte, n)
	random.Read(b)
	return b
}

func randomBlocks(random *rand.Rand) []api.Block {
	bs := make([]api.Block, 1+random.Intn(8))
	for i := range bs {
		bs[i] = api.Block{PT: random.Intn(128), Offset: random.Intn(16384), Data: randomBytes(random, random.Intn(30))}
	}
	bs[len(bs)-1].Offset = 0
	return bs
}

// P6.2, P5: what is written is read back, and the other way round.
func TestWrittenIsParsedBack(t *testing.T) {
	random := rand.New(rand.NewSource(1))
	for range 2000 {
		bs := randomBlocks(random)
		b, e := Write(bs)
		if e != api.OK || !bytes.Equal(b, model(bs)) {
			t.Fatalf("Write(%+v): %x %d", bs, b, e)
		}
		if got, e := Parse(b); e != api.OK || !slices.EqualFunc(got, bs, same) {
			t.Fatalf("%+v is parsed back as %+v %d", bs, got, e)
		}
		check(t, b)
	}
}

func TestAnyBytes(t *testing.T) {
	random := rand.New(rand.NewSource(2))
	for range 20000 {
		b, _ := Write(randomBlocks(random))
		b[random.Intn(len(b))] ^= 1 << random.Intn(8)
		check(t, b)
		check(t, b[:random.Intn(len(b)+1)])
		check(t, randomBytes(random, random.Intn(20)))
	}
}

func packet() api.Packet {
	return api.Packet{
		Marker: true, PT: 100, Seq: 5, TS: 1, SSRC: 3, CSRC: []uint32{7, 8},
		HasExt: true, Profile: 9, Ext: []byte("wxyz"), Payload: []byte(chain), Pad: []byte{0, 2},
	}
}

func TestPrimary(t *testing.T) {
	want := packet()
	want.PT, want.Payload = 96, []byte("C")
	if got, e := Primary(packet()); e != api.OK || !rtp.Same(got, want) {
		t.Errorf("%+v %d", got, e)
	}
	// It doesn't matter whether the packet is valid.
	got, e := Primary(api.Packet{PT: -9, Ext: []byte("a"), CSRC: make([]uint32, 20), Payload: []byte("\x05")})
	if e != api.OK || !rtp.Same(got, api.Packet{PT: 5, Ext: []byte("a"), CSRC: make([]uint32, 20)}) {
		t.Errorf("%+v %d", got, e)
	}
}

func TestOlder(t *testing.T) {
	p := packet()
	got, e := Older(p)
	if e != api.OK || len(got) != 1 || !rtp.Same(got[0], api.Packet{PT: 97, TS: math.MaxUint32, SSRC: 3, Payload: []byte("AB")}) {
		t.Errorf("%+v %d", got, e)
	}
	p.Payload = []byte("\x60C")
	if got, e := Older(p); e != api.OK || len(got) != 0 {
		t.Errorf("of one block: %+v %d", got, e)
	}
	for _, c := range []struct {
		ts     uint32
		offset int
		want   uint32
	}{
		{0, 0, 0}, {0, 1, math.MaxUint32}, {16383, 16383, 0}, {16382, 16383, math.MaxUint32},
		{math.MaxUint32, 16383, math.MaxUint32 - 16383}, {1 << 31, 1, 1<<31 - 1}, {70000, 100, 69900},
	} {
		payload, _ := Write([]api.Block{{PT: 1, Offset: c.offset}, {PT: 2, Offset: c.offset, Data: []byte("b")}, {}})
		got, e := Older(api.Packet{TS: c.ts, Payload: payload})
		if e != api.OK || len(got) != 2 || got[0].TS != c.want || got[1].TS != c.want || got[0].PT != 1 || got[1].PT != 2 {
			t.Errorf("TS %d, Offset %d: %+v %d", c.ts, c.offset, got, e)
		}
	}
}

func TestWrap(t *testing.T) {
	want := packet()
	want.PT, want.Payload = 101, []byte("\x64"+chain)
	if got, e := Wrap(packet(), 101); e != api.OK || !rtp.Same(got, want) {
		t.Errorf("%+v %d", got, e)
	}
	for _, c := range []struct {
		name        string
		pt, own, n  int
		e           api.Errno
		wantPayload string
	}{
		{"the least", 0, 0, 0, api.OK, "\x00"},
		{"the greatest PT", 127, 127, 1, api.OK, "\x7F\x00"},
		{"pt 128", 128, 0, 0, api.ErrArg, ""},
		{"pt -1", -1, 0, 0, api.ErrArg, ""},
		{"PT 128", 0, 128, 0, api.ErrArg, ""},
		{"PT -1", 0, -1, 0, api.ErrArg, ""},
		{"the longest payload", 1, 2, 1499, api.OK, "\x02" + string(make([]byte, 1499))},
		{"too long a payload", 1, 2, 1500, api.ErrLong, ""},
		{"pt 128 and too long a payload", 128, 0, 1500, api.ErrArg, ""},
		{"PT 128 and too long a payload", 0, 128, 1500, api.ErrArg, ""},
	} {
		p := api.Packet{PT: c.own, Seq: 5, Payload: make([]byte, c.n)}
		got, e := Wrap(p, c.pt)
		want := api.Packet{PT: c.pt, Seq: 5, Payload: []byte(c.wantPayload)}
		if c.e != api.OK {
			want = api.Packet{}
		}
		if e != c.e || !rtp.Same(got, want) {
			t.Errorf("%s: %+v %d, want %d", c.name, got, e, c.e)
		}
	}
}

// A packet need not be valid, nor fit when it is encoded.
func TestWrapOfAnyPacket(t *testing.T) {
	p := api.Packet{PT: 1, Profile: 3, Ext: []byte("abc"), CSRC: make([]uint32, 16), Payload: make([]byte, 1499), Pad: make([]byte, 300)}
	w, e := Wrap(p, 2)
	if e != api.OK || w.PT != 2 || len(w.Payload) != 1500 {
		t.Fatalf("%+v %d", w, e)
	}
	if got, e := Primary(w); e != api.OK || !rtp.Same(got, p) {
		t.Errorf("%+v %d", got, e)
	}
}

// P6.2: the second half.
func TestPrimaryOfWrapped(t *testing.T) {
	random := rand.New(rand.NewSource(3))
	for range 1000 {
		p := packet()
		p.Marker, p.PT, p.Seq, p.TS, p.Payload = random.Intn(2) == 0, random.Intn(128), uint16(random.Uint32()), random.Uint32(), randomBytes(random, random.Intn(60))
		w, e := Wrap(p, random.Intn(128))
		if e != api.OK {
			t.Fatalf("Wrap(%+v): %d", p, e)
		}
		if got, e := Primary(w); e != api.OK || !rtp.Same(got, p) {
			t.Fatalf("%+v came back as %+v %d", p, got, e)
		}
		if older, e := Older(w); e != api.OK || len(older) != 0 {
			t.Fatalf("Older of a wrapped packet: %+v %d", older, e)
		}
	}
}

func scribble(lists ...[]byte) {
	for _, b := range lists {
		b = b[:cap(b)]
		for i := range b {
			b[i] = 'x'
		}
	}
}

// scribblePacket overwrites all memory that a packet has.
func scribblePacket(p api.Packet) {
	scribble(p.Ext, p.Payload, p.Pad)
	c := p.CSRC[:cap(p.CSRC)]
	for i := range c {
		c[i] = 77
	}
}

// P6.3: blocks have memory of their own, and each one its own.
func TestBlocksAreNewMemory(t *testing.T) {
	const text = "\xE1\x00\x08\x02\xE2\x00\x00\x00\x60ABCD"
	all := []byte("<" + text + ">>>")
	b := all[1 : 1+len(text)]
	want, _ := Parse([]byte(text))
	for i := range want {
		got, _ := Parse(b)
		scribble(got[i].Data)
		for j := range got {
			if j != i && !same(got[j], want[j]) {
				t.Errorf("the blocks %d and %d share memory", i, j)
			}
		}
		if string(all) != "<"+text+">>>" {
			t.Fatalf("block %d shares memory with the bytes", i)
		}
	}
	got, _ := Parse(b)
	clear(all)
	if !slices.EqualFunc(got, want, same) {
		t.Errorf("the bytes are retained: %+v", got)
	}
}

func TestWrittenIsNewMemory(t *testing.T) {
	bs := chainBlocks()
	bs[0].Data = append(bs[0].Data, "spare"...)[:2]
	first, _ := Write(bs)
	second, _ := Write(bs)
	scribble(first)
	if !slices.EqualFunc(bs, chainBlocks(), same) || string(bs[0].Data[:7]) != "ABspare" {
		t.Errorf("Write shares memory with its blocks: %+v", bs)
	}
	scribble(bs[0].Data, bs[1].Data)
	if string(second) != chain {
		t.Errorf("Write retains its blocks: %q", second)
	}
}

func TestPacketsAreNewMemory(t *testing.T) {
	for name, of := range map[string]func(p api.Packet) []api.Packet{
		"Primary": func(p api.Packet) []api.Packet { q, _ := Primary(p); return []api.Packet{q} },
		"Wrap":    func(p api.Packet) []api.Packet { q, _ := Wrap(p, 1); return []api.Packet{q} },
		"Older":   func(p api.Packet) []api.Packet { list, _ := Older(p); return list },
	} {
		p, text := packet(), "\xE1\x00\x08\x02\xE2\x00\x00\x03\x60ABCDEF"
		all := []byte("<" + text + ">>>")
		p.Payload = all[1 : 1+len(text)]
		before := rtp.Clone(p)
		want := of(rtp.Clone(p))
		for i := range want {
			got := of(p)
			scribblePacket(got[i])
			if !rtp.Same(p, before) || string(all) != "<"+text+">>>" {
				t.Fatalf("%s: the result shares memory with the packet: %+v", name, p)
			}
			for j := range got {
				if j != i && !rtp.Same(got[j], want[j]) {
					t.Errorf("%s: two packets share memory", name)
				}
			}
		}
		got := of(p)
		scribblePacket(p)
		if len(got) == 0 || !slices.EqualFunc(got, want, rtp.Same) {
			t.Errorf("%s: the packet is retained: %+v", name, got)
		}
	}
}
