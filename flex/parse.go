package flex

import (
	"conflux/api"
	"conflux/mask"
	"conflux/wire"
)

// Parse is the pack of bytes.
func Parse(b []byte) (Pack, api.Errno) {
	if len(b) > api.MaxPacket {
		return Pack{}, api.ErrLong
	}
	return wire.Read(b, readPack)
}

func readPack(r *wire.Reader) Pack {
	p := readHeader(r)
	if p.Fixed {
		p.L = r.Byte()
		p.D = r.Byte()
	} else {
		p.Mask = readMask(r)
	}
	// A fixed pack has no mask, and any other one has no L.
	if p.L == 0 && p.Mask == (mask.Mask{}) {
		r.Fail(api.ErrBits)
	}
	p.Body = r.Rest()
	return p
}

func readHeader(r *wire.Reader) Pack {
	var p Pack
	first := r.Byte()
	// A wrong first bit isn't ErrShort, however few bytes follow.
	if first&wrongBit != 0 {
		r.Fail(api.ErrForm)
	}
	p.Fixed = first&fixedBit != 0
	p.Head[0] = byte(first & headBits)
	p.Head[1] = byte(r.Byte())
	copy(p.Head[6:], r.Take(2))
	copy(p.Head[2:6], r.Take(4))
	p.Base = r.Word()
	return p
}

func readMask(r *wire.Reader) mask.Mask {
	var m mask.Mask
	for _, x := range parts {
		number := readNumber(r, x.size())
		m = m.Or(mask.Lay(x.from, x.bits, number))
		if last := number>>x.bits == 1; last {
			return m
		}
	}
	r.Fail(api.ErrForm)
	return m
}

func readNumber(r *wire.Reader, size int) uint64 {
	var number uint64
	for range size {
		number = number<<8 | uint64(r.Byte())
	}
	return number
}
