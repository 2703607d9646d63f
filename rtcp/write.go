package rtcp

import (
	"slices"

	"conflux/api"
	"conflux/wire"
)

const (
	maxLoss = 1<<8 - 1
	minLost = -1 << 23
	maxLost = 1<<23 - 1
	maxKind = 1<<8 - 1 // of a text
)

// Write is items as bytes.
func Write(items []Item) ([]byte, api.Errno) {
	switch {
	case len(items) == 0:
		return nil, api.ErrNone
	case !leads(items[0].Kind) || slices.ContainsFunc(items, invalid):
		return nil, api.ErrArg
	case tooLong(items):
		return nil, api.ErrLong
	}
	var w wire.Writer
	for _, item := range items {
		writeItem(&w, item)
	}
	return w.Done(), api.OK
}

func invalid(x Item) bool {
	rest, known := unused(x)
	return !known || !Same(rest, Item{}) || count(x) > api.MaxChunks ||
		slices.ContainsFunc(x.Reports, invalidReport) ||
		slices.ContainsFunc(x.Chunks, invalidChunk) ||
		len(x.Reason) > api.MaxText
}

// unused is the fields that the item's kind does not use, if there is such a kind.
func unused(x Item) (Item, bool) {
	switch x.Kind {
	case sender:
		x.SSRC, x.Reports = 0, nil
		x.NTP, x.TS, x.Packets, x.Octets = 0, 0, 0, 0
	case receiver:
		x.SSRC, x.Reports = 0, nil
	case description:
		x.Chunks = nil
	case goodbye:
		x.Sources, x.Reason = nil, ""
	default:
		return Item{}, false
	}
	x.Kind = 0
	return x, true
}

// count is how many elements an item has: a valid one has them in one list.
func count(x Item) int { return len(x.Reports) + len(x.Chunks) + len(x.Sources) }

func invalidReport(r api.Report) bool {
	return r.Loss < 0 || r.Loss > maxLoss || r.Lost < minLost || r.Lost > maxLost
}

func invalidChunk(c Chunk) bool { return slices.ContainsFunc(c.Texts, invalidText) }

func invalidText(t Text) bool {
	return t.Kind < 1 || t.Kind > maxKind || len(t.Text) > api.MaxText
}

// tooLong is worked out ahead of writing, as the texts have no limit in number.
func tooLong(items []Item) bool {
	size := 0
	for _, item := range items {
		size += headerSize + contentSize(item)
	}
	return size > api.MaxPacket
}

func contentSize(x Item) int {
	size := reportSize*len(x.Reports) + wordSize*len(x.Sources)
	if leads(x.Kind) {
		size += wordSize
	}
	if x.Kind == sender {
		size += senderSize
	}
	for _, chunk := range x.Chunks {
		size += chunkSize(chunk)
	}
	if x.Reason != "" {
		size += aligned(1 + len(x.Reason))
	}
	return size
}

func chunkSize(c Chunk) int {
	size := wordSize + 1
	for _, text := range c.Texts {
		size += 2 + len(text.Text)
	}
	return aligned(size)
}

func writeItem(w *wire.Writer, x Item) {
	w.Byte(lead<<leadAt | count(x))
	w.Byte(x.Kind)
	w.Word(uint16(contentSize(x) / wordSize))
	if leads(x.Kind) {
		w.Long(x.SSRC)
	}
	if x.Kind == sender {
		w.Wide(x.NTP)
		w.Long(x.TS)
		w.Long(x.Packets)
		w.Long(x.Octets)
	}
	for _, report := range x.Reports {
		writeReport(w, report)
	}
	for _, chunk := range x.Chunks {
		writeChunk(w, chunk)
	}
	for _, source := range x.Sources {
		w.Long(source)
	}
	if x.Reason != "" {
		start := w.Len()
		writeText(w, x.Reason)
		writePadding(w, w.Len()-start)
	}
}

func writeReport(w *wire.Writer, r api.Report) {
	w.Long(r.SSRC)
	w.Byte(r.Loss)
	w.Byte(int(r.Lost >> 16))
	w.Word(uint16(r.Lost))
	w.Long(r.Highest)
	w.Long(r.Jitter)
	w.Long(r.LastSR)
	w.Long(r.Delay)
}

func writeChunk(w *wire.Writer, c Chunk) {
	start := w.Len()
	w.Long(c.SSRC)
	for _, text := range c.Texts {
		w.Byte(text.Kind)
		writeText(w, text.Text)
	}
	w.Byte(0)
	writePadding(w, w.Len()-start)
}

func writeText(w *wire.Writer, text string) {
	w.Byte(len(text))
	w.Put([]byte(text))
}

// writePadding writes what follows so many bytes up to the next word.
func writePadding(w *wire.Writer, size int) { w.Put(make([]byte, aligned(size)-size)) }
