package peel

import (
	"bytes"
	"maps"
	"math"
	"math/rand"
	"slices"
	"testing"

	"conflux/api"
	"conflux/equate"
	"conflux/parity"
	"conflux/rtp"
)

const ssrc = 3

// packet is the packet of a place in a stream whose numbers go round.
func packet(at int) []byte {
	bits := uint64(at+1) * 0x9E3779B97F4A7C15
	b := []byte{
		0x80, byte(bits >> 56), byte(at >> 8), byte(at),
		byte(bits >> 48), byte(bits >> 40), byte(bits >> 32), byte(bits >> 24), 0, 0, 0, ssrc,
	}
	for i := range (bits >> 16) % 6 {
		b = append(b, byte(bits>>i))
	}
	return b
}

// repair is the repair of places in a stream, in rising order.
func repair(places ...int) api.Repair {
	r := api.Repair{Base: uint16(places[0])}
	for _, at := range places {
		if i := at - places[0]; i < 64 {
			r.Hi |= 1 << (63 - i)
		} else {
			r.Lo |= 1 << (127 - i)
		}
		b := packet(at)
		addTo(&r, b)
	}
	return r
}

// addTo holds a packet against a repair's fields and bytes.
func addTo(r *api.Repair, b []byte) {
	head := [8]byte{b[0] % 64, b[1], b[4], b[5], b[6], b[7], byte((len(b) - 12) / 256), byte(len(b) - 12)}
	for i, x := range head {
		r.Head[i] ^= x
	}
	body := slices.Clone(r.Body)
	for i, x := range b[12:] {
		if i == len(body) {
			body = append(body, 0)
		}
		body[i] ^= x
	}
	r.Body = body
}

// rest is the packet that is left of a repair, if it is one.
func rest(r api.Repair, n uint16, source uint32) ([]byte, bool) {
	length := int(r.Head[6])*256 + int(r.Head[7])
	if length > len(r.Body) || length > 1488 {
		return nil, false
	}
	b := []byte{128 + r.Head[0]%64, r.Head[1], byte(n >> 8), byte(n)}
	b = append(b, r.Head[2:6]...)
	b = append(b, byte(source>>24), byte(source>>16), byte(source>>8), byte(source))
	b = append(b, r.Body[:length]...)
	_, e := rtp.Parse(b)
	return b, e == api.OK
}

func numbersOf(r api.Repair) []uint16 {
	var list []uint16
	for i := range 128 {
		word := r.Hi
		if i >= 64 {
			word = r.Lo
		}
		if word>>(63-i%64)&1 == 1 {
			list = append(list, r.Base+uint16(i))
		}
	}
	return list
}

// model is the decoder, with extended numbers all through: those of packets are kept, those of repairs are told anew each time.
type model struct {
	source  uint32
	w, r    int
	started bool
	newest  int64
	packets map[int64][]byte
	repairs []*held // all that have arrived, also those that are gone
}

type held struct {
	api.Repair
	gone bool
}

func newModel(source uint32, w, r int) *model {
	return &model{source: source, w: min(max(w, 1), 64), r: min(max(r, 1), 16), packets: map[int64][]byte{}}
}

func (m *model) extend(n uint16) int64 {
	if !m.started {
		return 1<<32 + int64(n)
	}
	least := m.newest - 32768
	return least + int64(n-uint16(least))
}

// numbers is the numbers of a repair, extended as of now.
func (m *model) numbers(h *held) []int64 {
	var list []int64
	for _, n := range numbersOf(h.Repair) {
		list = append(list, m.extend(n))
	}
	return list
}

func (m *model) within(at int64) bool { return !m.started || at > m.newest-int64(m.w) }

func (m *model) stored(at int64) bool { return m.packets[at] != nil }

// lacks tells whether one of a repair's numbers is neither within the window nor stored.
func (m *model) lacks(h *held) bool {
	return slices.ContainsFunc(m.numbers(h), func(at int64) bool { return !m.within(at) && !m.stored(at) })
}

func (m *model) missing(h *held) []int64 { return slices.DeleteFunc(m.numbers(h), m.stored) }

func (m *model) held() []*held {
	return slices.DeleteFunc(slices.Clone(m.repairs), func(h *held) bool { return h.gone })
}

func (m *model) media(b []byte) ([]Got, api.Errno) {
	p, e := rtp.Parse(b)
	if e != api.OK {
		return nil, e
	}
	at := m.extend(p.Seq)
	switch {
	case p.SSRC != m.source:
		return nil, api.ErrRoute
	case !m.within(at):
		return nil, api.ErrOld
	case m.stored(at):
		return nil, api.ErrTwice
	}
	m.store(at, b)
	return append([]Got{{p.Seq, b, false}}, m.recover()...), api.OK
}

func (m *model) repair(r api.Repair) ([]Got, api.Errno) {
	h := &held{Repair: r}
	switch {
	case len(m.numbers(h)) == 0:
		return nil, api.ErrBits
	case m.lacks(h):
		return nil, api.ErrOld
	case len(m.missing(h)) == 0:
		return nil, api.ErrKnown
	}
	if all := m.held(); len(all) == m.r {
		least := all[0]
		for _, x := range all {
			if m.numbers(x)[0] < m.numbers(least)[0] {
				least = x
			}
		}
		if m.numbers(h)[0] < m.numbers(least)[0] {
			return nil, api.ErrOld
		}
		least.gone = true
	}
	m.repairs = append(m.repairs, h)
	return m.recover(), api.OK
}

func (m *model) store(at int64, b []byte) {
	m.started, m.newest = true, max(m.newest, at)
	m.packets[at] = b
	maps.DeleteFunc(m.packets, func(at int64, _ []byte) bool { return !m.within(at) })
	for _, h := range m.repairs {
		h.gone = h.gone || m.lacks(h)
	}
}

func (m *model) recover() []Got {
	var got []Got
	for {
		before := len(got)
		for _, h := range m.repairs {
			if missing := m.missing(h); !h.gone && len(missing) < 2 {
				if b, ok := m.one(h, missing); ok {
					m.store(missing[0], b)
					got = append(got, Got{uint16(missing[0]), b, true})
				}
				h.gone = true
			}
		}
		if len(got) == before {
			return got
		}
	}
}

func (m *model) one(h *held, missing []int64) ([]byte, bool) {
	if len(missing) == 0 {
		return nil, false
	}
	left := h.Repair
	for _, at := range m.numbers(h) {
		if at != missing[0] {
			addTo(&left, m.packets[at])
		}
	}
	return rest(left, uint16(missing[0]), m.source)
}

func same(a, b []Got) bool {
	return slices.EqualFunc(a, b, func(a, b Got) bool {
		return a.Seq == b.Seq && bytes.Equal(a.Bytes, b.Bytes) && a.Told == b.Told
	})
}

// pair is a decoder and its model.
type pair struct {
	t *testing.T
	d *Decoder
	m *model
}

func newPair(t *testing.T, source uint32, w, r int) pair {
	return pair{t, New(source, w, r), newModel(source, w, r)}
}

func (p pair) media(b []byte) ([]Got, api.Errno) {
	p.t.Helper()
	before := bytes.Clone(b)
	got, e := p.d.Media(b)
	want, wantE := p.m.media(bytes.Clone(b))
	if !same(got, want) || e != wantE {
		p.t.Fatalf("Media(%x): %v %d, want %v %d", b, got, e, want, wantE)
	}
	if !bytes.Equal(b, before) {
		p.t.Fatalf("%x became %x", before, b)
	}
	p.compare()
	return got, e
}

func (p pair) repair(r api.Repair) ([]Got, api.Errno) {
	p.t.Helper()
	before := bytes.Clone(r.Body)
	got, e := p.d.Repair(r)
	want, wantE := p.m.repair(r)
	if !same(got, want) || e != wantE {
		p.t.Fatalf("Repair(%+v): %v %d, want %v %d", r, got, e, want, wantE)
	}
	if !bytes.Equal(r.Body, before) {
		p.t.Fatalf("%x became %x", before, r.Body)
	}
	p.compare()
	return got, e
}

// compare holds what the decoder stores against what the model does.
func (p pair) compare() {
	p.t.Helper()
	if p.d.Len() != len(p.m.packets) || p.d.Repairs() != len(p.m.held()) {
		p.t.Fatalf("%d packets and %d repairs, want %d and %d", p.d.Len(), p.d.Repairs(), len(p.m.packets), len(p.m.held()))
	}
	if p.d.Len() > p.m.w || p.d.Repairs() > p.m.r {
		p.t.Fatalf("%d packets and %d repairs, with the limits %d and %d", p.d.Len(), p.d.Repairs(), p.m.w, p.m.r)
	}
	if n, ok := p.d.Newest(); n != uint16(p.m.newest) || ok != p.m.started {
		p.t.Fatalf("Newest: %d %v, want %d %v", n, ok, uint16(p.m.newest), p.m.started)
	}
	for at := p.m.newest - 66; at < p.m.newest+3; at++ {
		b, ok := p.d.Has(uint16(at))
		if ok != p.m.stored(at) || !bytes.Equal(b, p.m.packets[at]) {
			p.t.Fatalf("Has(%d): %x %v, want %x", uint16(at), b, ok, p.m.packets[at])
		}
	}
}

// randomPlaces is places in a stream from one on, in rising order.
func randomPlaces(random *rand.Rand, from, span int) []int {
	places := []int{from}
	for range random.Intn(5) {
		places = append(places, from+random.Intn(span))
	}
	slices.Sort(places)
	return slices.Compact(places)
}

// P16.1, P16.2: all calls in any order, also with repairs and packets that aren't genuine.
func TestModel(t *testing.T) {
	random := rand.New(rand.NewSource(1))
	limits := []int{math.MinInt, -1, 0, 1, 2, 3, 5, 8, 15, 16, 17, 63, 64, 65, math.MaxInt}
	counts := map[api.Errno]int{}
	recovered := 0
	for range 1500 {
		p := newPair(t, ssrc, limits[random.Intn(len(limits))], limits[random.Intn(len(limits))])
		if random.Intn(4) == 0 {
			p = newPair(t, ssrc, 64, 16)
		}
		newest := 1<<17 + random.Intn(65536)
		if random.Intn(2) == 0 {
			newest = 1<<17 - 20 + random.Intn(40)
		}
		for range 150 {
			got, e := randomCall(random, p, &newest)
			counts[e]++
			for _, g := range got {
				if g.Told {
					recovered++
				}
			}
		}
	}
	for _, e := range []api.Errno{api.OK, api.ErrForm, api.ErrShort, api.ErrLong, api.ErrRoute, api.ErrOld, api.ErrTwice, api.ErrBits, api.ErrKnown} {
		if counts[e] < 500 {
			t.Errorf("error %d occurs %d times", e, counts[e])
		}
	}
	if recovered < 10000 {
		t.Errorf("%d recovered", recovered)
	}
}

// randomCall is a call with a packet or a repair near the newest place of a stream.
func randomCall(random *rand.Rand, p pair, newest *int) ([]Got, api.Errno) {
	p.t.Helper()
	w := p.m.w
	switch kind := random.Intn(100); {
	case kind < 40:
		at := *newest - random.Intn(w+2) + random.Intn(4)
		*newest = max(*newest, at)
		return p.media(packet(at))
	case kind < 75:
		places := randomPlaces(random, *newest-random.Intn(w+1)+random.Intn(5), 1+random.Intn(w+4))
		return p.repair(repair(places...))
	case kind < 80:
		return p.repair(repair(randomPlaces(random, *newest-random.Intn(w+1), 128)...))
	case kind < 90:
		return p.repair(changed(random, repair(randomPlaces(random, *newest-random.Intn(w), 1+random.Intn(6))...)))
	case kind < 91:
		return p.repair(api.Repair{Base: uint16(*newest), Body: []byte("ab")})
	case kind < 92:
		*newest += random.Intn(200)
		return p.media(packet(*newest))
	case kind < 93:
		// Around half the circle, where ahead becomes behind.
		at := *newest + 32767 - random.Intn(70) + random.Intn(4)
		if at-*newest < 32768 {
			*newest = at
		}
		return p.media(packet(at))
	case kind < 94:
		return p.repair(repair(randomPlaces(random, *newest+32767-random.Intn(130), 1+random.Intn(4))...))
	default:
		return p.media(wrong(random, packet(*newest+random.Intn(3))))
	}
}

// changed is a repair of which something isn't genuine.
func changed(random *rand.Rand, r api.Repair) api.Repair {
	switch random.Intn(4) {
	case 0:
		r.Head[random.Intn(8)] ^= 1 << random.Intn(8)
	case 1:
		r.Body = r.Body[:random.Intn(len(r.Body)+1)]
	case 2:
		r.Body = append(r.Body, byte(random.Intn(2)))
	case 3:
		r.Base += uint16(random.Intn(3))
	}
	return r
}

// wrong is something else than a packet of the source.
func wrong(random *rand.Rand, b []byte) []byte {
	switch random.Intn(5) {
	case 0:
		b[0] ^= 0x40
	case 1:
		b = b[:random.Intn(12)]
	case 2:
		b = append(b, make([]byte, 1500)...)
	default:
		b[8+random.Intn(4)] ^= 1
	}
	return b
}

func placesOf(got []Got) []int {
	var list []int
	for _, g := range got {
		list = append(list, int(g.Seq))
	}
	return list
}

func TestExample(t *testing.T) {
	first := []byte("\x80\x60\xFF\xFF\x00\x00\x00\x02\x00\x00\x00\x03ab")
	second := []byte("\x80\x60\x00\x00\x00\x00\x00\x02\x00\x00\x00\x03b")
	r, _ := parity.Make([][]byte{first, second})
	p := newPair(t, 3, 8, 4)
	if got, e := p.media(second); e != api.OK || !same(got, []Got{{0, second, false}}) {
		t.Errorf("%v %d", got, e)
	}
	if got, e := p.repair(r); e != api.OK || !same(got, []Got{{65535, first, true}}) {
		t.Errorf("%v %d", got, e)
	}
	if n, ok := p.d.Newest(); n != 0 || !ok {
		t.Errorf("%d %v", n, ok)
	}
}

func TestNewDecoder(t *testing.T) {
	d := New(ssrc, 8, 4)
	if n, ok := d.Newest(); n != 0 || ok {
		t.Errorf("Newest: %d %v", n, ok)
	}
	if b, ok := d.Has(0); b != nil || ok || d.Len() != 0 || d.Repairs() != 0 {
		t.Errorf("Has: %x %v", b, ok)
	}
	p := newPair(t, ssrc, 8, 4)
	p.repair(repair(1, 2))
	if n, ok := p.d.Newest(); n != 0 || ok {
		t.Errorf("Newest with just a repair: %d %v", n, ok)
	}
	p.media(packet(0))
	if n, ok := p.d.Newest(); n != 0 || !ok {
		t.Errorf("Newest with the packet 0: %d %v", n, ok)
	}
}

// P16.1: the errors of Media, the first one that applies, with nothing changed.
func TestErrorsOfMedia(t *testing.T) {
	p := newPair(t, ssrc, 4, 4)
	for at := 10; at < 14; at++ {
		p.media(packet(at))
	}
	p.repair(repair(13, 15, 16))
	other := func(at int) []byte { b := packet(at); b[11]++; return b }
	for _, c := range []struct {
		name string
		b    []byte
		e    api.Errno
	}{
		{"nothing", nil, api.ErrShort},
		{"a packet that is cut off", packet(14)[:11], api.ErrShort},
		{"another version", append([]byte{0}, packet(14)[1:]...), api.ErrForm},
		{"a packet that is too long", append(packet(14), make([]byte, 1500)...), api.ErrLong},
		{"wrong padding", append([]byte{0xA0}, append(packet(14)[1:], 0)...), api.ErrForm},
		{"another source", other(14), api.ErrRoute},
		{"another source, old", other(9), api.ErrRoute},
		{"another source, there already", other(13), api.ErrRoute},
		{"just too old", packet(9), api.ErrOld},
		{"half the circle behind", packet(13 + 32768), api.ErrOld},
		{"the oldest one again", packet(10), api.ErrTwice},
		{"the newest one again", packet(13), api.ErrTwice},
		{"other bytes of a number that is there", append(packet(13), 0), api.ErrTwice},
	} {
		if got, e := p.media(c.b); e != c.e || len(got) != 0 {
			t.Errorf("%s: %v %d, want %d", c.name, got, e, c.e)
		}
	}
	if got, e := p.media(packet(16)); e != api.OK || !slices.Equal(placesOf(got), []int{16, 15}) {
		t.Errorf("%v %d", got, e)
	}
}

// P16.1: the errors of Repair, the first one that applies, with nothing changed.
func TestErrorsOfRepair(t *testing.T) {
	p := newPair(t, ssrc, 4, 2)
	for at := 10; at < 14; at++ {
		p.media(packet(at))
	}
	p.repair(repair(12, 15, 16))
	p.repair(repair(13, 16, 17))
	for _, c := range []struct {
		name string
		r    api.Repair
		e    api.Errno
	}{
		{"no packets", api.Repair{}, api.ErrBits},
		{"no packets, but the rest", api.Repair{Head: [8]byte{1}, Base: 9, Body: []byte("a")}, api.ErrBits},
		{"old", repair(9, 14), api.ErrOld},
		{"old, in a later bit", api.Repair{Base: 13 + 32766, Hi: 7 << 61}, api.ErrOld},
		{"old, and all others stored", repair(9, 10, 11, 12, 13), api.ErrOld},
		{"all stored", repair(10, 11, 12, 13), api.ErrKnown},
		{"all stored, of one packet", repair(13), api.ErrKnown},
		{"all stored, of wrong bytes", api.Repair{Base: 10, Hi: 1 << 63}, api.ErrKnown},
		{"less than all others", repair(11, 15), api.ErrOld},
		{"less than all others, of the base alone it isn't", api.Repair{Base: 5, Hi: 1 << (63 - 6), Lo: 1 << 63}, api.ErrOld},
	} {
		if got, e := p.repair(c.r); e != c.e || len(got) != 0 {
			t.Errorf("%s: %v %d, want %d", c.name, got, e, c.e)
		}
	}
	if got, e := p.media(packet(16)); e != api.OK || !slices.Equal(placesOf(got), []int{16, 17}) {
		t.Errorf("%v %d", got, e)
	}
}

// P16.1: the window reaches from the newest number minus W, not included, to the future.
func TestWindow(t *testing.T) {
	for _, c := range []struct{ w, size int }{{-5, 1}, {0, 1}, {1, 1}, {2, 2}, {40, 40}, {63, 63}, {64, 64}, {65, 64}, {math.MaxInt, 64}, {math.MinInt, 1}} {
		p := newPair(t, ssrc, c.w, 4)
		p.media(packet(100))
		if _, e := p.media(packet(100 - c.size)); e != api.ErrOld {
			t.Errorf("window %d: too old: %d", c.w, e)
		}
		if _, e := p.repair(repair(100-c.size, 101, 102)); e != api.ErrOld {
			t.Errorf("window %d: a repair that is too old: %d", c.w, e)
		}
		for at := 100 - c.size + 1; at < 100; at++ {
			if _, e := p.media(packet(at)); e != api.OK {
				t.Fatalf("window %d: %d: %d", c.w, at, e)
			}
		}
		if p.d.Len() != c.size {
			t.Errorf("window %d: %d packets", c.w, p.d.Len())
		}
		p.media(packet(101))
		if _, ok := p.d.Has(uint16(101 - c.size)); ok || p.d.Len() != c.size {
			t.Errorf("window %d: %d packets", c.w, p.d.Len())
		}
	}
}

// P16.1: of too many repairs, that with the least first number goes.
func TestRepairLimit(t *testing.T) {
	for _, c := range []struct{ r, size int }{{-5, 1}, {0, 1}, {1, 1}, {2, 2}, {15, 15}, {16, 16}, {17, 16}, {math.MaxInt, 16}, {math.MinInt, 1}} {
		p := newPair(t, ssrc, 64, c.r)
		p.media(packet(0))
		for i := range c.size + 3 {
			if _, e := p.repair(repair(10+i, 40, 41)); e != api.OK {
				t.Fatalf("limit %d: repair %d: %d", c.r, i, e)
			}
		}
		if p.d.Repairs() != c.size {
			t.Errorf("limit %d: %d repairs", c.r, p.d.Repairs())
		}
		if _, e := p.repair(repair(12, 40, 41)); e != api.ErrOld {
			t.Errorf("limit %d: a lesser one: %d", c.r, e)
		}
		if _, e := p.repair(repair(13, 42, 43)); e != api.OK || p.d.Repairs() != c.size {
			t.Errorf("limit %d: an equal one: %d", c.r, e)
		}
	}
}

// P16.1: of several least ones, the first one that arrived goes.
func TestFirstOfEqualRepairs(t *testing.T) {
	p := newPair(t, ssrc, 64, 3)
	p.repair(repair(9, 11))
	p.repair(repair(5, 6))
	p.repair(repair(5, 7))
	p.repair(repair(5, 8))
	if got, _ := p.media(packet(5)); !slices.Equal(placesOf(got), []int{5, 7, 8}) {
		t.Errorf("%v", placesOf(got))
	}
}

// P16.1: the first number is of the lowest bit, and around 65535 it is extended.
func TestFirstNumber(t *testing.T) {
	p := newPair(t, ssrc, 64, 2)
	p.media(packet(65530))
	p.repair(repair(65536, 65540))
	p.repair(repair(65534, 65541))
	// Its base is the least one, but not its first number.
	r := repair(65537, 65538)
	r.Base, r.Hi = r.Base-20, r.Hi>>20
	if _, e := p.repair(r); e != api.OK {
		t.Errorf("%d", e)
	}
	if got, _ := p.media(packet(65534)); !slices.Equal(placesOf(got), []int{65534}) {
		t.Errorf("the least one wasn't removed: %v", placesOf(got))
	}
	if got, _ := p.media(packet(65540)); !slices.Equal(placesOf(got), []int{4, 0}) {
		t.Errorf("%v", placesOf(got))
	}
}

// P16.1: repairs that arrive ahead of any packet are visited, and have numbers without a turn.
func TestRepairsAheadOfPackets(t *testing.T) {
	p := newPair(t, ssrc, 64, 2)
	p.repair(repair(65535, 65536))
	p.repair(repair(65536, 65537))
	if _, e := p.repair(repair(65534, 65535)); e != api.OK || p.d.Repairs() != 2 {
		t.Errorf("65534 counts as less than 0: %d", e)
	}
	if got, _ := p.media(packet(65536)); !slices.Equal(placesOf(got), []int{0, 65535, 65534}) {
		t.Errorf("%v", placesOf(got))
	}
	// Those that turn out to be too old are removed.
	p = newPair(t, ssrc, 4, 4)
	p.repair(repair(65533, 65534))
	p.repair(repair(65532, 65534))
	p.repair(repair(70, 71))
	p.media(packet(65536))
	if p.d.Repairs() != 2 {
		t.Errorf("%d repairs", p.d.Repairs())
	}
	p.media(packet(65537))
	if p.d.Repairs() != 1 {
		t.Errorf("%d repairs", p.d.Repairs())
	}
	// A repair of one packet is that packet.
	p = newPair(t, ssrc, 4, 4)
	if got, e := p.repair(repair(7)); e != api.OK || !same(got, []Got{{7, packet(7), true}}) {
		t.Errorf("%v %d", got, e)
	}
	if n, ok := p.d.Newest(); n != 7 || !ok || p.d.Repairs() != 0 {
		t.Errorf("Newest: %d %v", n, ok)
	}
}

// P16.1: rounds visit the repairs in the order in which they arrived.
func TestOrderOfRecovery(t *testing.T) {
	for _, c := range []struct {
		repairs [][]int
		want    []int
	}{
		{[][]int{{10, 11}, {11, 12}, {12, 13}}, []int{10, 11, 12, 13}},
		{[][]int{{12, 13}, {11, 12}, {10, 11}}, []int{10, 11, 12, 13}},
		{[][]int{{12, 13}, {10, 14}, {10, 11}, {11, 12}}, []int{10, 14, 11, 12, 13}},
		{[][]int{{10, 13}, {10, 12}, {10, 11}}, []int{10, 13, 12, 11}},
		{[][]int{{10, 13, 14}, {13, 14}, {10, 11}, {11, 13}}, []int{10, 11, 13, 14}},
	} {
		p := newPair(t, ssrc, 64, 16)
		for _, places := range c.repairs {
			p.repair(repair(places...))
		}
		if got, e := p.media(packet(10)); e != api.OK || !slices.Equal(placesOf(got), c.want) {
			t.Errorf("%v: %v %d, want %v", c.repairs, placesOf(got), e, c.want)
		}
		if p.d.Repairs() != 0 {
			t.Errorf("%v: %d repairs are left", c.repairs, p.d.Repairs())
		}
	}
}

// P16.1: the same repair may be there twice.
func TestEqualRepairs(t *testing.T) {
	p := newPair(t, ssrc, 8, 4)
	p.repair(repair(1, 2))
	p.repair(repair(1, 2))
	if p.d.Repairs() != 2 {
		t.Errorf("%d repairs", p.d.Repairs())
	}
	if got, e := p.media(packet(2)); e != api.OK || !slices.Equal(placesOf(got), []int{2, 1}) || p.d.Repairs() != 0 {
		t.Errorf("%v %d, and %d repairs", placesOf(got), e, p.d.Repairs())
	}
}

// P16.1: what comes out must be a packet; otherwise the repair is removed.
func TestWrongRepairs(t *testing.T) {
	p := newPair(t, ssrc, 8, 4)
	bad := repair(1, 2)
	bad.Head[6] ^= 0x40
	p.repair(bad)
	p.repair(repair(2, 3))
	if got, e := p.media(packet(2)); e != api.OK || !slices.Equal(placesOf(got), []int{2, 3}) || p.d.Repairs() != 0 {
		t.Errorf("%v %d, and %d repairs", placesOf(got), e, p.d.Repairs())
	}
	if got, e := p.repair(bad); e != api.OK || len(got) != 0 || p.d.Repairs() != 0 {
		t.Errorf("at once: %v %d, and %d repairs", placesOf(got), e, p.d.Repairs())
	}
	// It is still one of R, and removes another one.
	p = newPair(t, ssrc, 8, 1)
	p.media(packet(2))
	p.repair(repair(1, 3))
	if got, e := p.repair(bad); e != api.OK || len(got) != 0 || p.d.Repairs() != 0 {
		t.Errorf("in the place of another: %v %d, and %d repairs", placesOf(got), e, p.d.Repairs())
	}
}

// P16.1: a recovered packet moves the window too, in the middle of a round.
func TestRecoveryMovesTheWindow(t *testing.T) {
	p := newPair(t, ssrc, 4, 8)
	p.media(packet(10))
	p.repair(repair(11, 16, 17))
	p.repair(repair(12, 15))
	p.repair(repair(11, 14))
	p.repair(repair(13, 14))
	if got, e := p.media(packet(12)); e != api.OK || !slices.Equal(placesOf(got), []int{12, 15}) {
		t.Fatalf("%v %d", placesOf(got), e)
	}
	// 10 and both repairs with 11 are gone, since 15 is there.
	if _, ok := p.d.Has(10); ok || p.d.Len() != 2 || p.d.Repairs() != 1 {
		t.Errorf("%d packets, %d repairs", p.d.Len(), p.d.Repairs())
	}
	if n, ok := p.d.Newest(); n != 15 || !ok {
		t.Errorf("Newest: %d %v", n, ok)
	}

	// The second repair goes because of the first one, ahead of its visit: 18 is
	// stored by then, and 11 is too old.
	p = newPair(t, ssrc, 4, 8)
	p.repair(repair(12, 18))
	p.repair(repair(11, 18))
	if got, e := p.media(packet(12)); e != api.OK || !slices.Equal(placesOf(got), []int{12, 18}) {
		t.Errorf("%v %d", placesOf(got), e)
	}
	if p.d.Repairs() != 0 || p.d.Len() != 1 {
		t.Errorf("%d packets, %d repairs", p.d.Len(), p.d.Repairs())
	}
}

// P16.1: a repair goes with a packet of it that falls out of the window, stored or not.
func TestEviction(t *testing.T) {
	p := newPair(t, ssrc, 4, 8)
	p.media(packet(10))
	p.repair(repair(10, 12, 14))
	p.repair(repair(11, 15, 16))
	p.media(packet(13))
	if p.d.Len() != 2 || p.d.Repairs() != 2 {
		t.Errorf("%d packets, %d repairs", p.d.Len(), p.d.Repairs())
	}
	// Now 10 goes ahead of the rounds, so 12 isn't recovered.
	if got, e := p.media(packet(14)); e != api.OK || len(got) != 1 || p.d.Len() != 2 || p.d.Repairs() != 1 {
		t.Errorf("%v %d, %d packets, %d repairs", placesOf(got), e, p.d.Len(), p.d.Repairs())
	}
	p.media(packet(15))
	if p.d.Len() != 3 || p.d.Repairs() != 0 {
		t.Errorf("%d packets, %d repairs", p.d.Len(), p.d.Repairs())
	}
	p.media(packet(1000))
	if p.d.Len() != 1 {
		t.Errorf("%d packets", p.d.Len())
	}
}

// P16.2, P16.3: packets that are too old are removed, however far the newest number jumps.
func TestJumpOfPackets(t *testing.T) {
	for jump := 32600; jump < 32768; jump++ {
		p := newPair(t, ssrc, 64, 16)
		for at := 1000; at < 1064; at++ {
			p.media(packet(at))
		}
		if got, e := p.media(packet(1063 + jump)); e != api.OK || len(got) != 1 || p.d.Len() != 1 {
			t.Fatalf("jump %d: %v %d, %d packets", jump, placesOf(got), e, p.d.Len())
		}
		// A turn later, the same numbers are those of other packets.
		p.media(packet(50000))
		for at := 1000; at < 1064; at++ {
			if got, e := p.media(packet(65536 + at)); e != api.OK || !same(got, []Got{{uint16(at), packet(65536 + at), false}}) {
				t.Fatalf("jump %d: %v %d", jump, got, e)
			}
		}
	}
}

// P16.1: after a jump, the numbers of stored repairs are what Peek returns then: a repair stays if
// all of them are more than half the circle behind, and so ahead. The same repair is accepted again
// just then.
func TestJumpOfRepairs(t *testing.T) {
	for jump := 32600; jump < 32768; jump++ {
		p := newPair(t, ssrc, 64, 16)
		for at := 1000; at < 1064; at += 2 {
			p.media(packet(at))
		}
		p.media(packet(1063))
		stay := 0
		for at := 1001; at < 1060; at += 4 {
			// The packet between the two is stored, until the jump.
			if _, e := p.repair(repair(at, at+1, at+2)); e != api.OK {
				t.Fatalf("the repair of %d: %d", at, e)
			}
			if 1063+jump-(at+2) > 32768 {
				stay++
			}
		}
		if got, e := p.media(packet(1063 + jump)); e != api.OK || len(got) != 1 || p.d.Len() != 1 || p.d.Repairs() != stay {
			t.Fatalf("jump %d: %v %d, %d packets, %d repairs, want %d", jump, placesOf(got), e, p.d.Len(), p.d.Repairs(), stay)
		}
		for at := 1001; at < 1060; at += 4 {
			want := api.ErrOld
			if 1063+jump-(at+2) > 32768 {
				want = api.OK
			}
			if _, e := p.repair(repair(at, at+1, at+2)); e != want {
				t.Fatalf("jump %d, the repair of %d again: %d, want %d", jump, at, e, want)
			}
		}
	}
}

// P16.1: a repair whose numbers are ahead after a jump waits for its packets.
func TestRepairOfTheFarSide(t *testing.T) {
	start := func(r int) pair {
		p := newPair(t, ssrc, 5, r)
		p.repair(repair(65533, 65534, 65535))
		p.media(packet(1))
		if p.d.Repairs() != 1 {
			t.Fatalf("with 1: %d repairs", p.d.Repairs())
		}
		if got, e := p.media(packet(32768)); e != api.OK || len(got) != 1 || p.d.Len() != 1 || p.d.Repairs() != 1 {
			t.Fatalf("with 32768: %v %d, %d packets, %d repairs", placesOf(got), e, p.d.Len(), p.d.Repairs())
		}
		return p
	}
	p := start(1)
	p.media(packet(65533))
	if got, e := p.media(packet(65535)); e != api.OK || !slices.Equal(placesOf(got), []int{65535, 65534}) || p.d.Repairs() != 0 {
		t.Errorf("%v %d, %d repairs", placesOf(got), e, p.d.Repairs())
	}
	// It is one of R, and its first number is that far ahead.
	p = start(1)
	if _, e := p.repair(repair(65532, 65535)); e != api.ErrOld || p.d.Repairs() != 1 {
		t.Errorf("a repair behind it: %d", e)
	}
	if _, e := p.repair(repair(65534, 65535)); e != api.OK || p.d.Repairs() != 1 {
		t.Errorf("a repair ahead of it: %d", e)
	}
	if got, _ := p.media(packet(65534)); !slices.Equal(placesOf(got), []int{65534, 65535}) {
		t.Errorf("%v", placesOf(got))
	}
	p = start(2)
	p.repair(repair(32769, 32770))
	p.repair(repair(32771, 32772))
	if got, _ := p.media(packet(32770)); p.d.Repairs() != 2 || len(got) != 1 {
		t.Errorf("not that of 32769 was removed: %v", placesOf(got))
	}
	// It is too old once its packets are just behind again.
	p = start(1)
	p.media(packet(50000))
	p.media(packet(65537))
	if p.d.Repairs() != 1 {
		t.Errorf("with 65537: %d repairs", p.d.Repairs())
	}
	p.media(packet(65538))
	if p.d.Repairs() != 0 {
		t.Errorf("with 65538: %d repairs", p.d.Repairs())
	}
	// Half the circle apart is behind.
	p = newPair(t, ssrc, 5, 1)
	p.repair(repair(65533, 65534, 65535))
	p.media(packet(0))
	p.media(packet(32767))
	if p.d.Repairs() != 0 {
		t.Errorf("%d repairs", p.d.Repairs())
	}
}

// P16.3, P3: of genuine packets and repairs, all that is returned is the original, and once.
func TestGenuine(t *testing.T) {
	random := rand.New(rand.NewSource(2))
	recovered := 0
	for range 400 {
		d := New(ssrc, 1+random.Intn(64), 1+random.Intn(16))
		newest := 1<<17 - 60 + random.Intn(120)
		started := false
		seen := map[int]struct{}{}
		note := func(got []Got) {
			for _, g := range got {
				// The place of that number which is next to the newest one.
				at := newest + int(int16(g.Seq-uint16(newest)))
				if _, again := seen[at]; again || !bytes.Equal(g.Bytes, packet(at)) {
					t.Fatalf("%d, %x, again: %v", at, g.Bytes, again)
				}
				seen[at] = struct{}{}
				newest = max(newest, at)
				if g.Told {
					recovered++
				}
			}
		}
		for range 300 {
			if random.Intn(2) == 0 {
				places := randomPlaces(random, newest-random.Intn(50)+random.Intn(10), 1+random.Intn(40))
				got, _ := d.Repair(repair(places...))
				note(got)
				continue
			}
			at := newest - random.Intn(60) + random.Intn(10)
			if started && random.Intn(100) == 0 {
				// Not so far that numbers which are just behind would become numbers ahead.
				at = newest + random.Intn(32768-64)
			}
			got, e := d.Media(packet(at))
			if e == api.OK {
				started = true
			}
			note(got)
		}
	}
	if recovered < 5000 {
		t.Errorf("%d recovered", recovered)
	}
}

// P16.4: as long as all of it is within the limits, all is recovered that layer 15 recovers.
func TestRecoversAll(t *testing.T) {
	random := rand.New(rand.NewSource(3))
	recovered := 0
	for range 3000 {
		start := 1<<17 - random.Intn(80)
		span := 1 + random.Intn(64)
		d := New(ssrc, 64, 16)
		var known []int
		var eqs [][]int
		var calls []func() ([]Got, api.Errno)
		for i := range span {
			if random.Intn(3) > 0 {
				at := start + i
				known = append(known, at)
				calls = append(calls, func() ([]Got, api.Errno) { return d.Media(packet(at)) })
			}
		}
		for range random.Intn(17) {
			from := random.Intn(span)
			places := randomPlaces(random, start+from, min(span-from, 1+random.Intn(span)))
			eqs = append(eqs, places)
			calls = append(calls, func() ([]Got, api.Errno) { return d.Repair(repair(places...)) })
		}
		got := map[int]bool{}
		for _, i := range random.Perm(len(calls)) {
			list, _ := calls[i]()
			for _, g := range list {
				at := start + int(g.Seq-uint16(start))
				if got[at] || !bytes.Equal(g.Bytes, packet(at)) {
					t.Fatalf("%d, %x", at, g.Bytes)
				}
				got[at] = true
				if g.Told {
					recovered++
				}
			}
		}
		if want := equate.Closure(known, eqs); !maps.Equal(got, want) {
			t.Fatalf("%v with %v: %v, want %v", known, eqs, got, want)
		}
		if d.Len() != len(got) {
			t.Fatalf("%d packets, want %d", d.Len(), len(got))
		}
	}
	if recovered < 5000 {
		t.Errorf("%d recovered", recovered)
	}
}

// P16.1: all bits of a mask count, and so do all bytes of the greatest packets.
func TestGreatest(t *testing.T) {
	p := newPair(t, ssrc, 1, 1)
	if got, e := p.repair(repair(65500, 65627)); e != api.OK || len(got) != 0 {
		t.Errorf("%v %d", got, e)
	}
	if got, e := p.media(packet(65500)); e != api.OK || !slices.Equal(placesOf(got), []int{65500, 91}) || p.d.Len() != 1 {
		t.Errorf("%v %d", got, e)
	}
	var packets [][]byte
	for at := range 48 {
		packets = append(packets, append(packet(at)[:12], bytes.Repeat([]byte{byte(at + 1)}, 1488)...))
	}
	r, e := parity.Make(packets)
	if e != api.OK {
		t.Fatal(e)
	}
	p = newPair(t, ssrc, 64, 1)
	p.repair(r)
	for at := range 47 {
		got, e := p.media(packets[at])
		if e != api.OK || at < 46 && len(got) != 1 || at == 46 && (len(got) != 2 || !bytes.Equal(got[1].Bytes, packets[47])) {
			t.Errorf("%d: %v %d", at, placesOf(got), e)
		}
	}
}

// P16.1: a source is of 32 bits, and the packets that are recovered have it.
func TestSource(t *testing.T) {
	const source = 0xFEDCBA98
	from := func(at int) []byte {
		b := packet(at)
		copy(b[8:], []byte{0xFE, 0xDC, 0xBA, 0x98})
		return b
	}
	p := newPair(t, source, 8, 4)
	p.repair(repair(1, 2))
	if _, e := p.media(packet(1)); e != api.ErrRoute {
		t.Errorf("%d", e)
	}
	if got, e := p.media(from(1)); e != api.OK || !same(got, []Got{{1, from(1), false}, {2, from(2), true}}) {
		t.Errorf("%v %d", got, e)
	}
}

// P1: a decoder that New didn't make has the least limits and the source 0.
func TestZeroDecoder(t *testing.T) {
	p := pair{t, new(Decoder), newModel(0, 1, 1)}
	p.compare()
	zero := func(at int) []byte { b := packet(at); b[11] = 0; return b }
	p.media(packet(1))
	p.repair(repair(1, 2))
	p.repair(repair(2, 3))
	p.media(zero(2))
	p.media(zero(4))
	p.repair(repair(4, 5))
	if p.d.Len() != 1 {
		t.Errorf("%d packets", p.d.Len())
	}
}

func scribble(b []byte) {
	b = b[:cap(b)]
	for i := range b {
		b[i] = 'x'
	}
}

// What was passed may be overwritten, and what was returned is the caller's.
func TestMemory(t *testing.T) {
	d := New(ssrc, 8, 4)
	whole := append(append([]byte("<"), packet(1)...), ">>>"...)
	kept := bytes.Clone(whole)
	body := append(repair(1, 2).Body, "<>>>"...)
	r := repair(1, 2)
	r.Body = body[:len(body)-4]
	if got, e := d.Repair(r); e != api.OK || len(got) != 0 {
		t.Fatalf("%v %d", got, e)
	}
	scribble(body)
	got, e := d.Media(whole[1 : len(whole)-3])
	if e != api.OK || !same(got, []Got{{1, packet(1), false}, {2, packet(2), true}}) {
		t.Fatalf("%v %d", got, e)
	}
	for i := range got {
		scribble(got[i].Bytes)
		if i == 0 && !bytes.Equal(got[1].Bytes, packet(2)) {
			t.Error("two packets of a result share memory")
		}
	}
	if !bytes.Equal(whole, kept) {
		t.Errorf("a result shares memory with an argument: %x", whole)
	}
	scribble(whole)
	for at := 1; at < 3; at++ {
		for range 2 {
			b, ok := d.Has(uint16(at))
			if !ok || !bytes.Equal(b, packet(at)) {
				t.Errorf("%d is stored as %x", at, b)
			}
			scribble(b)
		}
	}
	if got, e := d.Repair(repair(1, 2, 3)); e != api.OK || !same(got, []Got{{3, packet(3), true}}) {
		t.Errorf("%v %d", got, e)
	}
}

// P2: two decoders don't share anything.
func TestTwoDecoders(t *testing.T) {
	one, two := newPair(t, ssrc, 8, 4), newPair(t, ssrc, 8, 4)
	one.media(packet(1))
	one.repair(repair(2, 3))
	two.compare()
	two.media(packet(70))
	one.compare()
	if got, _ := one.media(packet(3)); !slices.Equal(placesOf(got), []int{3, 2}) {
		t.Errorf("%v", placesOf(got))
	}
}
