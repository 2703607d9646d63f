package rtcp

import (
	"conflux/api"
	"conflux/wire"
)

// Parse is the items of a compound packet.
func Parse(b []byte) ([]Item, api.Errno) {
	if len(b) > api.MaxPacket {
		return nil, api.ErrLong
	}
	items, e := wire.Each(b, api.MaxPacket/headerSize, readItem)
	switch {
	case e != api.OK:
		return nil, e
	case len(items) == 0:
		return nil, api.ErrNone
	case !leads(items[0].Kind):
		return nil, api.ErrForm
	}
	return items, api.OK
}

func readItem(r *wire.Reader) Item {
	first := r.Byte()
	// A wrong first byte isn't ErrShort, however few bytes follow.
	if first>>leadAt != lead {
		r.Fail(api.ErrForm)
	}
	kind := r.Byte()
	content := r.Take(wordSize * int(r.Word()))
	item, e := wire.Read(content, func(inner *wire.Reader) Item {
		return readContent(inner, kind, first&countBits)
	})
	// The item is complete: content that ends too early, or too late, doesn't
	// have the length that was announced.
	if e != api.OK {
		r.Fail(api.ErrForm)
	}
	return item
}

func readContent(r *wire.Reader, kind, count int) Item {
	item := Item{Kind: kind}
	switch kind {
	case sender:
		item.SSRC = r.Long()
		item.NTP = r.Wide()
		item.TS = r.Long()
		item.Packets = r.Long()
		item.Octets = r.Long()
		item.Reports = several(r, count, readReport)
	case receiver:
		item.SSRC = r.Long()
		item.Reports = several(r, count, readReport)
	case description:
		item.Chunks = several(r, count, readChunk)
	case goodbye:
		item.Sources = several(r, count, (*wire.Reader).Long)
		item.Reason = readReason(r)
	default:
		r.Fail(api.ErrForm)
	}
	return item
}

// several is so many elements, one after the other.
func several[T any](r *wire.Reader, count int, read func(r *wire.Reader) T) []T {
	var list []T
	for range count {
		list = append(list, read(r))
	}
	return list
}

func readReport(r *wire.Reader) api.Report {
	return api.Report{
		SSRC:    r.Long(),
		Loss:    r.Byte(),
		Lost:    readLost(r),
		Highest: r.Long(),
		Jitter:  r.Long(),
		LastSR:  r.Long(),
		Delay:   r.Long(),
	}
}

func readLost(r *wire.Reader) int32 {
	high := int32(int8(r.Byte())) // the sign is that of the first byte
	return high<<16 | int32(r.Word())
}

func readChunk(r *wire.Reader) Chunk {
	start := r.Left()
	chunk := Chunk{SSRC: r.Long()}
	for kind := r.Byte(); kind != 0; kind = r.Byte() {
		chunk.Texts = append(chunk.Texts, Text{Kind: kind, Text: readText(r)})
	}
	skipPadding(r, start-r.Left())
	return chunk
}

func readText(r *wire.Reader) string { return string(r.Take(r.Byte())) }

// readReason is the reason if there is one; an empty one would be written as none.
func readReason(r *wire.Reader) string {
	start := r.Left()
	if start == 0 {
		return ""
	}
	reason := readText(r)
	if reason == "" {
		r.Fail(api.ErrForm)
	}
	skipPadding(r, start-r.Left())
	return reason
}

// skipPadding reads what follows so many bytes up to the next word.
func skipPadding(r *wire.Reader, size int) {
	for range aligned(size) - size {
		if r.Byte() != 0 {
			r.Fail(api.ErrForm)
		}
	}
}
