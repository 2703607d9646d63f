package ulp

import (
	"conflux/api"
	"conflux/mask"
	"conflux/wire"
)

// Write is a pack as bytes.
func Write(p Pack) ([]byte, api.Errno) {
	if e := fault(p); e != api.OK {
		return nil, e
	}
	var w wire.Writer
	writeHeader(&w, p)
	for _, level := range p.Levels {
		writeLevel(&w, level, maskBits(p.Long))
	}
	return w.Done(), api.OK
}

// fault is the error of a pack that isn't valid.
func fault(p Pack) api.Errno {
	switch {
	case len(p.Levels) == 0:
		return api.ErrNone
	case len(p.Levels) > maxLevels:
		return api.ErrMany
	case !validMasks(p):
		return api.ErrBits
	case size(p) > api.MaxPacket:
		return api.ErrLong
	}
	return api.OK
}

func validMasks(p Pack) bool {
	for _, level := range p.Levels {
		if level.Mask.Last() >= maskBits(p.Long) {
			return false
		}
	}
	return p.Levels[0].Mask != mask.Mask{}
}

// size is how many bytes the encoding has: more than any of its bodies, so
// that they need no limit of their own.
func size(p Pack) int {
	size := headerSize
	for _, level := range p.Levels {
		size += lengthSize + maskBits(p.Long)/8 + len(level.Body)
	}
	return size
}

func writeHeader(w *wire.Writer, p Pack) {
	var first [2]byte
	copy(first[:], p.Head[:2])
	first[0] &= headBits
	if p.Long {
		first[0] |= longBit
	}
	w.Put(first[:])
	w.Word(p.Base)
	w.Put(p.Head[2:])
}

func writeLevel(w *wire.Writer, level Level, bits int) {
	w.Word(uint16(len(level.Body)))
	for at := 0; at < bits; at += 16 {
		w.Word(uint16(level.Mask.Part(at, 16)))
	}
	w.Put(level.Body)
}
