package rtp

import (
	"conflux/api"
	"conflux/wire"
)

// Size is how many bytes it would have.
func Size(p api.Packet) int {
	size := fixedSize + wordSize*len(p.CSRC) + len(p.Payload) + len(p.Pad)
	if p.HasExt {
		size += wordSize + len(p.Ext)
	}
	return size
}

// Write is a packet as bytes.
func Write(p api.Packet) ([]byte, api.Errno) {
	switch {
	case p.PT < 0 || p.PT > ptBits || !validExt(p) || !validPadding(p.Pad):
		return nil, api.ErrArg
	case len(p.CSRC) > api.MaxCSRC:
		return nil, api.ErrMany
	case Size(p) > api.MaxPacket:
		return nil, api.ErrLong
	}
	return encode(p), api.OK
}

func validExt(p api.Packet) bool {
	if !p.HasExt {
		return len(p.Ext) == 0 && p.Profile == 0
	}
	return len(p.Ext)%wordSize == 0 && len(p.Ext)/wordSize <= maxExtWords
}

// validPadding needs no limit of 255 bytes: the last byte can't tell more.
func validPadding(padding []byte) bool {
	size := len(padding)
	return size == 0 || int(padding[size-1]) == size
}

func encode(p api.Packet) []byte {
	var w wire.Writer
	w.Byte(version<<versionAt | bit(len(p.Pad) > 0, paddingBit) | bit(p.HasExt, extBit) | len(p.CSRC))
	w.Byte(bit(p.Marker, markerBit) | p.PT)
	w.Word(p.Seq)
	w.Long(p.TS)
	w.Long(p.SSRC)
	for _, source := range p.CSRC {
		w.Long(source)
	}
	if p.HasExt {
		w.Word(p.Profile)
		w.Word(uint16(len(p.Ext) / wordSize))
		w.Put(p.Ext)
	}
	w.Put(p.Payload)
	w.Put(p.Pad)
	return w.Done()
}

func bit(set bool, value int) int {
	if set {
		return value
	}
	return 0
}
