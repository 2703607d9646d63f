package ulp

import (
	"conflux/api"
	"conflux/mask"
	"conflux/wire"
)

// Parse is the pack of bytes.
func Parse(b []byte) (Pack, api.Errno) {
	if len(b) > api.MaxPacket {
		return Pack{}, api.ErrLong
	}
	p, read, e := wire.Part(b, readHeader)
	if e != api.OK {
		return Pack{}, e
	}
	p.Levels, e = wire.Each(b[read:], maxLevels, func(r *wire.Reader) Level {
		return readLevel(r, maskBits(p.Long))
	})
	switch {
	case e != api.OK:
		return Pack{}, e
	case len(p.Levels) == 0:
		return Pack{}, api.ErrShort
	case p.Levels[0].Mask == mask.Mask{}:
		return Pack{}, api.ErrBits
	}
	return p, api.OK
}

func readHeader(r *wire.Reader) Pack {
	var p Pack
	first := r.Byte()
	// A wrong first bit isn't ErrShort, however few bytes follow.
	if first&wrongBit != 0 {
		r.Fail(api.ErrForm)
	}
	p.Long = first&longBit != 0
	p.Head[0] = byte(first & headBits)
	p.Head[1] = byte(r.Byte())
	p.Base = r.Word()
	copy(p.Head[2:], r.Take(6))
	return p
}

func readLevel(r *wire.Reader, bits int) Level {
	size := int(r.Word())
	return Level{Mask: readMask(r, bits), Body: r.Take(size)}
}

func readMask(r *wire.Reader, bits int) mask.Mask {
	var m mask.Mask
	for at := 0; at < bits; at += 16 {
		m = m.Or(mask.Lay(at, 16, uint64(r.Word())))
	}
	return m
}
