package rtp

import (
	"conflux/api"
	"conflux/wire"
)

// Parse is the packet of bytes.
func Parse(b []byte) (api.Packet, api.Errno) {
	if len(b) > api.MaxPacket {
		return api.Packet{}, api.ErrLong
	}
	return wire.Read(b, readPacket)
}

func readPacket(r *wire.Reader) api.Packet {
	first := r.Byte()
	// Another version isn't ErrShort, however few bytes follow.
	if first>>versionAt != version {
		r.Fail(api.ErrForm)
	}
	second := r.Byte()
	p := api.Packet{Marker: second&markerBit != 0, PT: second & ptBits}
	p.Seq = r.Word()
	p.TS = r.Long()
	p.SSRC = r.Long()
	for range first & csrcBits {
		p.CSRC = append(p.CSRC, r.Long())
	}
	if first&extBit != 0 {
		p.HasExt = true
		p.Profile = r.Word()
		p.Ext = r.Take(wordSize * int(r.Word()))
	}
	p.Payload = r.Rest()
	if first&paddingBit != 0 {
		p.Payload, p.Pad = splitPadding(r, p.Payload)
	}
	return p
}

func splitPadding(r *wire.Reader, rest []byte) (payload, padding []byte) {
	size := paddingSize(rest)
	if size == 0 {
		r.Fail(api.ErrForm)
	}
	end := len(rest) - size
	// The padding lies behind the payload: without a limit, bytes that are
	// appended to the payload would overwrite it.
	return rest[:end:end], rest[end:]
}

// paddingSize is what the last byte tells, or 0 if that isn't valid.
func paddingSize(rest []byte) int {
	if len(rest) == 0 {
		return 0
	}
	size := int(rest[len(rest)-1])
	if size > len(rest) {
		return 0
	}
	return size
}
