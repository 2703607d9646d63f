package flex

import (
	"conflux/api"
	"conflux/mask"
	"conflux/wire"
)

// Write is a pack as bytes.
func Write(p Pack) ([]byte, api.Errno) {
	if e := fault(p); e != api.OK {
		return nil, e
	}
	var w wire.Writer
	writeHeader(&w, p)
	if p.Fixed {
		w.Byte(p.L)
		w.Byte(p.D)
	} else {
		writeMask(&w, p.Mask)
	}
	w.Put(p.Body)
	return w.Done(), api.OK
}

// fault is the error of a pack that isn't valid.
func fault(p Pack) api.Errno {
	switch {
	case !validGrid(p):
		return api.ErrArg
	case !validMask(p):
		return api.ErrBits
	case headerSize+whichSize(p)+len(p.Body) > api.MaxPacket:
		return api.ErrLong
	}
	return api.OK
}

func validGrid(p Pack) bool {
	if p.Fixed {
		return isGrid(p.L, p.D)
	}
	return p.L == 0 && p.D == 0
}

func validMask(p Pack) bool {
	empty := p.Mask == mask.Mask{}
	return empty == p.Fixed && p.Mask.Last() < api.MaxSpan
}

// whichSize is how many bytes tell which packets a pack protects.
func whichSize(p Pack) int {
	if p.Fixed {
		return gridSize
	}
	size := 0
	for _, x := range parts {
		size += x.size()
		if x.suffices(p.Mask) {
			break
		}
	}
	return size
}

func writeHeader(w *wire.Writer, p Pack) {
	var first [8]byte
	copy(first[:2], p.Head[:2])
	copy(first[2:4], p.Head[6:])
	copy(first[4:], p.Head[2:6])
	first[0] &= headBits
	if p.Fixed {
		first[0] |= fixedBit
	}
	w.Put(first[:])
	w.Word(p.Base)
}

func writeMask(w *wire.Writer, m mask.Mask) {
	for _, x := range parts {
		number := m.Part(x.from, x.bits)
		if x.suffices(m) {
			writeNumber(w, number|1<<x.bits, x.size())
			return
		}
		writeNumber(w, number, x.size())
	}
}

func writeNumber(w *wire.Writer, number uint64, size int) {
	for i := size - 1; i >= 0; i-- {
		w.Byte(int(number >> (8 * i)))
	}
}
