package rtcp

import (
	"bytes"
	"encoding/hex"
	"fmt"
	"math"
	"math/rand"
	"slices"
	"strings"
	"testing"

	"conflux/api"
)

// empty is the document's example: a receiver report of the source 5 without reports.
const empty = "\x80\xC9\x00\x01\x00\x00\x00\x05"

// full has an item of each kind.
const full = "\x82\xC8\x00\x12" + "\x00\x00\x00\x01" + "\x11\x12\x13\x14\x15\x16\x17\x18" + "\x00\x00\x00\x03" + "\x00\x00\x00\x04" + "\xF0\x00\x00\x05" +
	"\x00\x00\x00\x06" + "\xFF" + "\xFF\xFF\xFF" + "\x00\x01\x00\x07" + "\x00\x00\x00\x08" + "\x00\x00\x00\x09" + "\x00\x00\x00\x0A" +
	"\xFF\xFF\xFF\xFF" + "\x01" + "\x01\x02\x03" + "\x80\x00\x00\x00" + "\x80\x00\x00\x01" + "\x80\x00\x00\x02" + "\x80\x00\x00\x03" +
	"\x81\xC9\x00\x07" + "\x00\x00\x00\x0B" +
	"\x00\x00\x00\x0C" + "\x00" + "\x80\x00\x00" + "\x00\x00\x00\x00" + "\x00\x00\x00\x00" + "\x00\x00\x00\x00" + "\x00\x00\x00\x00" +
	"\x82\xCA\x00\x05" + "\x00\x00\x00\x0D" + "\x01\x03abc" + "\xFF\x00" + "\x00" +
	"\x00\x00\x00\x0E" + "\x02\x01d" + "\x00" +
	"\x82\xCB\x00\x03" + "\x00\x00\x00\x0F" + "\x00\x00\x00\x10" + "\x02xy\x00"

func fullItems() []Item {
	return []Item{
		{Kind: 200, SSRC: 1, NTP: 0x1112131415161718, TS: 3, Packets: 4, Octets: 0xF0000005, Reports: []api.Report{
			{SSRC: 6, Loss: 255, Lost: -1, Highest: 0x10007, Jitter: 8, LastSR: 9, Delay: 10},
			{SSRC: math.MaxUint32, Loss: 1, Lost: 0x010203, Highest: 1 << 31, Jitter: 1<<31 + 1, LastSR: 1<<31 + 2, Delay: 1<<31 + 3},
		}},
		{Kind: 201, SSRC: 11, Reports: []api.Report{{SSRC: 12, Lost: -1 << 23}}},
		{Kind: 202, Chunks: []Chunk{{SSRC: 13, Texts: []Text{{Kind: 1, Text: "abc"}, {Kind: 255}}}, {SSRC: 14, Texts: []Text{{Kind: 2, Text: "d"}}}}},
		{Kind: 203, Sources: []uint32{15, 16}, Reason: "xy"},
	}
}

// upToWord is hexadecimal digits with zeros up to the next 32-bit boundary.
func upToWord(digits string) string {
	for len(digits)%8 != 0 {
		digits += "00"
	}
	return digits
}

func modelReports(list []api.Report) string {
	digits := ""
	for _, r := range list {
		digits += fmt.Sprintf("%08x%02x%06x%08x%08x%08x%08x", r.SSRC, r.Loss, (1<<24+int64(r.Lost))%(1<<24), r.Highest, r.Jitter, r.LastSR, r.Delay)
	}
	return digits
}

func modelContent(x Item) (string, int) {
	digits := ""
	switch x.Kind {
	case 200:
		return fmt.Sprintf("%08x%016x%08x%08x%08x", x.SSRC, x.NTP, x.TS, x.Packets, x.Octets) + modelReports(x.Reports), len(x.Reports)
	case 201:
		return fmt.Sprintf("%08x", x.SSRC) + modelReports(x.Reports), len(x.Reports)
	case 202:
		for _, c := range x.Chunks {
			chunk := fmt.Sprintf("%08x", c.SSRC)
			for _, text := range c.Texts {
				chunk += fmt.Sprintf("%02x%02x%x", text.Kind, len(text.Text), text.Text)
			}
			digits += upToWord(chunk + "00")
		}
		return digits, len(x.Chunks)
	}
	for _, source := range x.Sources {
		digits += fmt.Sprintf("%08x", source)
	}
	if x.Reason != "" {
		digits += upToWord(fmt.Sprintf("%02x%x", len(x.Reason), x.Reason))
	}
	return digits, len(x.Sources)
}

// model is the encoding of valid items, put together in hexadecimal as the document lists the parts.
func model(t *testing.T, items []Item) []byte {
	t.Helper()
	digits := ""
	for _, x := range items {
		content, n := modelContent(x)
		digits += fmt.Sprintf("%02x%02x%04x", 0x80+n, x.Kind, len(content)/8) + content
	}
	b, err := hex.DecodeString(digits)
	if err != nil {
		t.Fatal(err)
	}
	return b
}

// zeros tells whether bytes are zero, fewer than a word.
func zeros(b []byte) bool { return len(b) < 4 && len(bytes.Trim(b, "\x00")) == 0 }

// wellFormed tells whether content is that of so many elements, worked out from where the parts would lie.
func wellFormed(kind, n int, b []byte) bool {
	switch kind {
	case 200:
		return len(b) == 24+24*n
	case 201:
		return len(b) == 4+24*n
	case 202:
		at := 0
		for range n {
			at += 4
			for at < len(b) && b[at] != 0 {
				if at+1 >= len(b) {
					return false
				}
				at += 2 + int(b[at+1])
			}
			if at >= len(b) {
				return false
			}
			end := at/4*4 + 4
			if !zeros(b[at+1 : end]) {
				return false
			}
			at = end
		}
		return at == len(b)
	case 203:
		if len(b) <= 4*n {
			return len(b) == 4*n
		}
		b = b[4*n:]
		end := 1 + int(b[0])
		return b[0] != 0 && end <= len(b) && zeros(b[end:])
	}
	return false
}

// fault is the error of Parse.
func fault(b []byte) api.Errno {
	if len(b) > 1500 {
		return api.ErrLong
	}
	first := 0
	for at := 0; at < len(b); {
		item := b[at:]
		if item[0] < 0x80 || item[0] > 0x9F {
			return api.ErrForm
		}
		if len(item) < 4 {
			return api.ErrShort
		}
		size := 4 + 4*(256*int(item[2])+int(item[3]))
		if len(item) < size {
			return api.ErrShort
		}
		if !wellFormed(int(item[1]), int(item[0])-0x80, item[4:size]) {
			return api.ErrForm
		}
		if at == 0 {
			first = int(item[1])
		}
		at += size
	}
	switch {
	case len(b) == 0:
		return api.ErrNone
	case first != 200 && first != 201:
		return api.ErrForm
	}
	return api.OK
}

type told struct {
	ssrc   uint32
	report api.Report
}

// reports are those of Reports, and those of the items.
func reports(b []byte, items []Item) (got, want []told) {
	for ssrc, r := range Reports(b) {
		got = append(got, told{ssrc, r})
	}
	for _, x := range items {
		for _, r := range x.Reports {
			want = append(want, told{x.SSRC, r})
		}
	}
	return got, want
}

// check holds Parse of bytes, and what goes with it, against the document.
func check(t *testing.T, b []byte) {
	t.Helper()
	before := bytes.Clone(b)
	items, e := Parse(b)
	if want := fault(b); e != want {
		t.Fatalf("Parse(%x): %d, want %d", b, e, want)
	}
	if got, want := reports(b, items); !slices.Equal(got, want) {
		t.Fatalf("Reports(%x): %+v", b, got)
	}
	if !bytes.Equal(b, before) {
		t.Fatalf("%x is changed to %x", before, b)
	}
	if e != api.OK {
		if len(items) != 0 {
			t.Fatalf("Parse(%x): %+v beside %d", b, items, e)
		}
		return
	}
	if !bytes.Equal(model(t, items), b) {
		t.Fatalf("Parse(%x): %+v", b, items)
	}
	if again, e := Write(items); e != api.OK || !bytes.Equal(again, b) {
		t.Fatalf("%x is written as %x %d", b, again, e)
	}
}

func TestExample(t *testing.T) {
	items, e := Parse([]byte(empty))
	if e != api.OK || !slices.EqualFunc(items, []Item{{Kind: 201, SSRC: 5}}, Same) {
		t.Errorf("%+v %d", items, e)
	}
	if b, e := Write(items); e != api.OK || string(b) != empty {
		t.Errorf("%x %d", b, e)
	}
}

func TestEveryKind(t *testing.T) {
	items, e := Parse([]byte(full))
	if e != api.OK || !slices.EqualFunc(items, fullItems(), Same) {
		t.Errorf("%+v %d", items, e)
	}
	if b, e := Write(fullItems()); e != api.OK || string(b) != full {
		t.Errorf("%x %d", b, e)
	}
	check(t, []byte(full))
}

// Bytes end well only where an item does.
func TestEveryLength(t *testing.T) {
	ends := []int{4 + 72, 4 + 72 + 4 + 28, 4 + 72 + 4 + 28 + 4 + 20, len(full)}
	for n := range len(full) + 1 {
		want := api.ErrShort
		if n == 0 {
			want = api.ErrNone
		} else if slices.Contains(ends, n) {
			want = api.OK
		}
		if _, e := Parse([]byte(full[:n])); e != want {
			t.Errorf("%d bytes: %d, want %d", n, e, want)
		}
		check(t, []byte(full[:n]))
	}
}

func TestParse(t *testing.T) {
	long := func(first string, size int) string {
		return first + strings.Repeat("\x80\xCB\x00\x00", 400)[:size-len(first)]
	}
	report := strings.Repeat("r", 24)
	for _, c := range []struct {
		name, b string
		e       api.Errno
	}{
		{"no bytes", "", api.ErrNone},
		{"as long as may be", long(empty, 1500), api.OK},
		{"too long", long(empty, 1504), api.ErrLong},
		{"too long by a byte", long(empty, 1501), api.ErrLong},
		{"too long, with a wrong first byte", "\x00" + long(empty, 1504)[1:], api.ErrLong},
		{"version 0", "\x00", api.ErrForm},
		{"version 1", "\x40", api.ErrForm},
		{"version 3", "\xC0", api.ErrForm},
		{"a third bit", "\xA0", api.ErrForm},
		{"a third bit of a whole item", "\xA0" + empty[1:], api.ErrForm},
		{"a count of 31", "\x9F", api.ErrShort},
		{"no length", "\x80\xC9\x00", api.ErrShort},
		{"content that is cut off", empty[:7], api.ErrShort},
		{"the most content, which isn't there", "\x80\xC9\xFF\xFF" + report, api.ErrShort},
		{"an unknown kind that is cut off", "\x80\xCC\x00\x01", api.ErrShort},
		{"kind 199", "\x80\xC7" + empty[2:], api.ErrForm},
		{"kind 204", "\x80\xCC" + empty[2:], api.ErrForm},
		{"kind 204 without content", "\x80\xCC\x00\x00", api.ErrForm},
		{"kind 204 behind another one", empty + "\x80\xCC\x00\x00", api.ErrForm},
		{"a receiver report without SSRC", "\x80\xC9\x00\x00", api.ErrForm},
		{"a receiver report of more words", "\x80\xC9\x00\x02\x00\x00\x00\x05\x00\x00\x00\x00", api.ErrForm},
		{"a receiver report with a report that isn't counted", "\x80\xC9\x00\x07\x00\x00\x00\x05" + report, api.ErrForm},
		{"a receiver report with a report", "\x81\xC9\x00\x07\x00\x00\x00\x05" + report, api.OK},
		{"a receiver report that lacks a report", "\x82\xC9\x00\x07\x00\x00\x00\x05" + report, api.ErrForm},
		{"a receiver report that lacks a word", "\x81\xC9\x00\x06\x00\x00\x00\x05" + report[:20], api.ErrForm},
		{"a report that would reach into the next item", "\x81\xC9\x00\x01\x00\x00\x00\x05" + report, api.ErrForm},
		{"31 reports", "\x9F\xC9\x00\xBB\x00\x00\x00\x05" + strings.Repeat(report, 31), api.OK},
		{"a sender report", "\x80\xC8\x00\x06" + report, api.OK},
		{"a sender report that lacks a word", "\x80\xC8\x00\x05" + report[:20], api.ErrForm},
		{"a sender report of more words", "\x80\xC8\x00\x07" + report + "rrrr", api.ErrForm},
		{"a sender report with a report", "\x81\xC8\x00\x0C" + report + report, api.OK},
		{"no texts", empty + "\x81\xCA\x00\x02\x00\x00\x00\x05\x00\x00\x00\x00", api.OK},
		{"no chunks", empty + "\x80\xCA\x00\x00", api.OK},
		{"a chunk that isn't counted", empty + "\x80\xCA\x00\x02\x00\x00\x00\x05\x00\x00\x00\x00", api.ErrForm},
		{"a chunk without an end", empty + "\x81\xCA\x00\x01\x00\x00\x00\x05", api.ErrForm},
		{"half a chunk", empty + "\x82\xCA\x00\x02\x00\x00\x00\x05\x00\x00\x00\x00", api.ErrForm},
		{"a chunk with an end, and a word more", empty + "\x81\xCA\x00\x03\x00\x00\x00\x05\x01\x01a\x00\x00\x00\x00\x00", api.ErrForm},
		{"a text", empty + "\x81\xCA\x00\x02\x00\x00\x00\x05\x01\x01a\x00", api.OK},
		{"a text without an end", empty + "\x81\xCA\x00\x02\x00\x00\x00\x05\x01\x02ab", api.ErrForm},
		{"a text without an end ahead of another item", empty + "\x81\xCA\x00\x02\x00\x00\x00\x05\x01\x02ab\x80\xCB\x00\x00", api.ErrForm},
		{"a text that is cut off", empty + "\x81\xCA\x00\x02\x00\x00\x00\x05\x01\x03ab", api.ErrForm},
		{"a text without its length", empty + "\x81\xCA\x00\x02\x00\x00\x00\x05\x01\x00\x00\x01", api.ErrForm},
		{"an empty text", empty + "\x81\xCA\x00\x02\x00\x00\x00\x05\x01\x00\x00\x00", api.OK},
		{"two empty texts and four zero bytes", empty + "\x81\xCA\x00\x03\x00\x00\x00\x05\x01\x00\x02\x00\x00\x00\x00\x00", api.OK},
		{"the first byte of padding", empty + "\x81\xCA\x00\x02\x00\x00\x00\x05\x00\x01\x00\x00", api.ErrForm},
		{"the second byte of padding", empty + "\x81\xCA\x00\x02\x00\x00\x00\x05\x00\x00\x01\x00", api.ErrForm},
		{"the third byte of padding", empty + "\x81\xCA\x00\x02\x00\x00\x00\x05\x00\x00\x00\x80", api.ErrForm},
		{"a goodbye of nobody", empty + "\x80\xCB\x00\x00", api.OK},
		{"a goodbye that lacks a source", empty + "\x81\xCB\x00\x00", api.ErrForm},
		{"a source that isn't counted", empty + "\x80\xCB\x00\x01\x00\x00\x00\x05", api.ErrForm},
		{"an empty reason", empty + "\x80\xCB\x00\x01\x00\x00\x00\x00", api.ErrForm},
		{"a reason", empty + "\x81\xCB\x00\x02\x00\x00\x00\x05\x01x\x00\x00", api.OK},
		{"a reason of nobody", empty + "\x80\xCB\x00\x01\x03xyz", api.OK},
		{"a reason that is cut off", empty + "\x80\xCB\x00\x01\x04xyz", api.ErrForm},
		{"a reason that would reach into the next item", empty + "\x80\xCB\x00\x01\x04xyz\x80\xCB\x00\x00", api.ErrForm},
		{"a reason and a word more", empty + "\x80\xCB\x00\x02\x03xyz\x00\x00\x00\x00", api.ErrForm},
		{"a reason and a word of padding", empty + "\x80\xCB\x00\x02\x02xy\x00\x00\x00\x00\x00", api.ErrForm},
		{"padding of a reason", empty + "\x80\xCB\x00\x01\x01x\x00\x01", api.ErrForm},
		{"the first byte of padding of a reason", empty + "\x80\xCB\x00\x01\x01x\x01\x00", api.ErrForm},
		{"a reason of zero bytes", empty + "\x80\xCB\x00\x01\x03\x00\x00\x00", api.OK},
		{"a goodbye first", "\x80\xCB\x00\x00", api.ErrForm},
		{"a goodbye first, and a whole item", "\x80\xCB\x00\x00" + empty, api.ErrForm},
		{"a goodbye first, and half an item", "\x80\xCB\x00\x00" + empty[:7], api.ErrShort},
		{"a description first", "\x80\xCA\x00\x00", api.ErrForm},
		{"a description first, and half an item", "\x80\xCA\x00\x00\x80", api.ErrShort},
		{"form ahead of short", empty + "\x80\xCC\x00\x00\x80", api.ErrForm},
		{"short ahead of form", empty + "\x80\xC9\x00\xFF\x00\x00\x00\x00\x80\xCC\x00\x00", api.ErrShort},
		{"a byte behind an item", empty + "\x80", api.ErrShort},
		{"a zero byte behind an item", empty + "\x00", api.ErrForm},
		{"a sender report behind a receiver report", empty + "\x80\xC8\x00\x06" + report, api.OK},
	} {
		if _, e := Parse([]byte(c.b)); e != c.e {
			t.Errorf("%s: %d, want %d", c.name, e, c.e)
		}
		check(t, []byte(c.b))
	}
}

// All values of the first two bytes, with so many bytes behind them.
func TestFirstBytes(t *testing.T) {
	rest := "\x00\x06" + strings.Repeat("\x00", 24)
	for i := range 1 << 16 {
		b := append([]byte{byte(i >> 8), byte(i)}, rest...)
		for _, n := range []int{1, 2, 4, 27, len(b)} {
			if _, e := Parse(b[:n]); e != fault(b[:n]) {
				t.Fatalf("Parse(%x): %d", b[:n], e)
			}
		}
	}
}

// The kind of a byte, as all of 8 bits.
func TestEveryKindOfText(t *testing.T) {
	for kind := 1; kind < 256; kind++ {
		items := []Item{{Kind: 201}, {Kind: 202, Chunks: []Chunk{{Texts: []Text{{Kind: kind, Text: "t"}}}}}}
		b, e := Write(items)
		if e != api.OK || !bytes.Equal(b, model(t, items)) {
			t.Fatalf("kind %d: %x %d", kind, b, e)
		}
		check(t, b)
	}
}

// Each length of a text and of a reason, so that all lengths of padding occur.
func TestLengthsOfTexts(t *testing.T) {
	for n := range 256 {
		text := strings.Repeat("\x00t\xFF", 100)[:n]
		items := []Item{
			{Kind: 201},
			{Kind: 202, Chunks: []Chunk{{SSRC: 1, Texts: []Text{{Kind: 1, Text: text}}}, {SSRC: 2, Texts: []Text{{Kind: 2, Text: text}, {Kind: 3}}}}},
			{Kind: 203, Reason: text},
			{Kind: 203, Sources: []uint32{7}, Reason: text},
		}
		b, e := Write(items)
		if e != api.OK || !bytes.Equal(b, model(t, items)) {
			t.Fatalf("%d bytes: %x %d", n, b, e)
		}
		check(t, b)
		if back, e := Parse(b); e != api.OK || !slices.EqualFunc(back, items, Same) {
			t.Fatalf("%d bytes: %+v %d", n, back, e)
		}
	}
}

func TestLost(t *testing.T) {
	for _, lost := range []int32{0, 1, -1, 255, 256, -256, -257, 0x7FFF, 0x8000, -0x8000, 0xFFFF, 0x10000, -0x10000, -0x10001, 1<<23 - 1, -1 << 23} {
		items := []Item{{Kind: 201, Reports: []api.Report{{Lost: lost}}}}
		b, e := Write(items)
		if e != api.OK || !bytes.Equal(b, model(t, items)) {
			t.Errorf("%d: %x %d", lost, b, e)
		}
		if back, e := Parse(b); e != api.OK || back[0].Reports[0].Lost != lost {
			t.Errorf("%d: %+v %d", lost, back, e)
		}
	}
}

func one(x Item) []Item { return []Item{x} }

// behind is an item behind another one that may be the first.
func behind(x Item) []Item { return []Item{{Kind: 201}, x} }

func withReport(r api.Report) Item { return Item{Kind: 201, Reports: []api.Report{r}} }

func withText(text Text) Item {
	return Item{Kind: 202, Chunks: []Chunk{{}, {Texts: []Text{{Kind: 1}, text}}}}
}

func TestWrite(t *testing.T) {
	text := func(n int) string { return strings.Repeat("t", n) }
	for _, c := range []struct {
		name  string
		items []Item
		e     api.Errno
	}{
		{"none", nil, api.ErrNone},
		{"none of an empty list", []Item{}, api.ErrNone},
		{"a sender report", one(Item{Kind: 200}), api.OK},
		{"a receiver report", one(Item{Kind: 201}), api.OK},
		{"a description first", one(Item{Kind: 202}), api.ErrArg},
		{"a goodbye first", one(Item{Kind: 203}), api.ErrArg},
		{"a goodbye first of two", []Item{{Kind: 203}, {Kind: 201}}, api.ErrArg},
		{"a description", behind(Item{Kind: 202}), api.OK},
		{"a goodbye", behind(Item{Kind: 203}), api.OK},
		{"the zero item", one(Item{}), api.ErrArg},
		{"the zero item behind another one", behind(Item{}), api.ErrArg},
		{"kind 199", behind(Item{Kind: 199}), api.ErrArg},
		{"kind 204", behind(Item{Kind: 204}), api.ErrArg},
		{"kind -56", behind(Item{Kind: -56}), api.ErrArg},
		{"kind 457", behind(Item{Kind: 256 + 201}), api.ErrArg},
		{"kind 457 first", one(Item{Kind: 256 + 201}), api.ErrArg},
		{"31 reports", one(Item{Kind: 201, Reports: make([]api.Report, 31)}), api.OK},
		{"32 reports", one(Item{Kind: 201, Reports: make([]api.Report, 32)}), api.ErrArg},
		{"31 reports of a sender", one(Item{Kind: 200, Reports: make([]api.Report, 31)}), api.OK},
		{"32 reports of a sender", one(Item{Kind: 200, Reports: make([]api.Report, 32)}), api.ErrArg},
		{"31 chunks", behind(Item{Kind: 202, Chunks: make([]Chunk, 31)}), api.OK},
		{"32 chunks", behind(Item{Kind: 202, Chunks: make([]Chunk, 32)}), api.ErrArg},
		{"31 sources", behind(Item{Kind: 203, Sources: make([]uint32, 31)}), api.OK},
		{"32 sources", behind(Item{Kind: 203, Sources: make([]uint32, 32)}), api.ErrArg},
		{"Loss 255", one(withReport(api.Report{Loss: 255})), api.OK},
		{"Loss 256", one(withReport(api.Report{Loss: 256})), api.ErrArg},
		{"Loss -1", one(withReport(api.Report{Loss: -1})), api.ErrArg},
		{"the least Loss", one(withReport(api.Report{Loss: math.MinInt})), api.ErrArg},
		{"Loss 256 of the second report", one(Item{Kind: 200, Reports: []api.Report{{}, {Loss: 256}}}), api.ErrArg},
		{"Lost 2^23 - 1", one(withReport(api.Report{Lost: 1<<23 - 1})), api.OK},
		{"Lost 2^23", one(withReport(api.Report{Lost: 1 << 23})), api.ErrArg},
		{"Lost -2^23", one(withReport(api.Report{Lost: -1 << 23})), api.OK},
		{"Lost -2^23 - 1", one(withReport(api.Report{Lost: -1<<23 - 1})), api.ErrArg},
		{"a text of kind 1", behind(withText(Text{Kind: 1})), api.OK},
		{"a text of kind 0", behind(withText(Text{Kind: 0})), api.ErrArg},
		{"a text of kind -1", behind(withText(Text{Kind: -1})), api.ErrArg},
		{"a text of kind 255", behind(withText(Text{Kind: 255})), api.OK},
		{"a text of kind 256", behind(withText(Text{Kind: 256})), api.ErrArg},
		{"a text of kind 257", behind(withText(Text{Kind: 257})), api.ErrArg},
		{"a text of 255 bytes", behind(withText(Text{Kind: 1, Text: text(255)})), api.OK},
		{"a text of 256 bytes", behind(withText(Text{Kind: 1, Text: text(256)})), api.ErrArg},
		{"a reason of 255 bytes", behind(Item{Kind: 203, Reason: text(255)}), api.OK},
		{"a reason of 256 bytes", behind(Item{Kind: 203, Reason: text(256)}), api.ErrArg},
		{"a reason of 256 bytes in two", behind(Item{Kind: 203, Reason: strings.Repeat("\u00e4", 128)}), api.ErrArg},
		{"empty lists", one(Item{Kind: 201, Reports: []api.Report{}, Chunks: []Chunk{}, Sources: []uint32{}}), api.OK},
	} {
		b, e := Write(c.items)
		if e != c.e {
			t.Errorf("%s: %d, want %d", c.name, e, c.e)
			continue
		}
		if e != api.OK {
			if len(b) != 0 {
				t.Errorf("%s: %d bytes beside %d", c.name, len(b), e)
			}
			continue
		}
		if !bytes.Equal(b, model(t, c.items)) {
			t.Errorf("%s: %x", c.name, b)
		}
		check(t, b)
	}
}

// A field that an item's kind does not use makes it not valid.
func TestUnusedFields(t *testing.T) {
	for field, c := range map[string]struct {
		set  func(x *Item)
		used []int
	}{
		"SSRC":    {func(x *Item) { x.SSRC = 1 << 31 }, []int{200, 201}},
		"NTP":     {func(x *Item) { x.NTP = 1 << 63 }, []int{200}},
		"TS":      {func(x *Item) { x.TS = 1 }, []int{200}},
		"Packets": {func(x *Item) { x.Packets = 1 }, []int{200}},
		"Octets":  {func(x *Item) { x.Octets = 1 }, []int{200}},
		"Reports": {func(x *Item) { x.Reports = make([]api.Report, 1) }, []int{200, 201}},
		"Chunks":  {func(x *Item) { x.Chunks = make([]Chunk, 1) }, []int{202}},
		"Sources": {func(x *Item) { x.Sources = make([]uint32, 1) }, []int{203}},
		"Reason":  {func(x *Item) { x.Reason = "r" }, []int{203}},
	} {
		for kind := 199; kind <= 204; kind++ {
			x := Item{Kind: kind}
			c.set(&x)
			want := api.ErrArg
			if slices.Contains(c.used, kind) {
				want = api.OK
			}
			if _, e := Write(behind(x)); e != want {
				t.Errorf("%s of kind %d: %d, want %d", field, kind, e, want)
			}
		}
	}
}

func TestTooLong(t *testing.T) {
	// 8 bytes, 4 + 1476 bytes, and 12 bytes.
	fits := []Item{{Kind: 201}, {Kind: 202, Chunks: chunksOf(1476)}, {Kind: 203, Sources: []uint32{1}, Reason: "abc"}}
	if b, e := Write(fits); e != api.OK || len(b) != 1500 {
		t.Errorf("1500 bytes: %d %d", len(b), e)
	}
	for name, items := range map[string][]Item{
		"one more source":         {fits[0], fits[1], {Kind: 203, Sources: []uint32{1, 2}, Reason: "abc"}},
		"one more byte of reason": {fits[0], fits[1], {Kind: 203, Sources: []uint32{1}, Reason: "abcd"}},
		"a longer text":           {fits[0], {Kind: 202, Chunks: chunksOf(1480)}, fits[2]},
		"one more item":           append(slices.Clone(fits), Item{Kind: 203}),
		"a sender report":         {{Kind: 200}, fits[1], fits[2]},
		"a report":                {{Kind: 201, Reports: make([]api.Report, 1)}, fits[1], fits[2]},
		"as many items":           append([]Item{{Kind: 201}}, slices.Repeat([]Item{{Kind: 203}}, 374)...),
		"very many items":         append([]Item{{Kind: 201}}, slices.Repeat([]Item{{Kind: 203}}, 1<<18)...),
		"very many texts":         behind(Item{Kind: 202, Chunks: []Chunk{{Texts: slices.Repeat([]Text{{Kind: 1}}, 1<<18)}}}),
	} {
		if b, e := Write(items); e != api.ErrLong || len(b) != 0 {
			t.Errorf("%s: %d bytes, %d", name, len(b), e)
		}
	}
	many := append([]Item{{Kind: 201}}, slices.Repeat([]Item{{Kind: 203}}, 373)...)
	if b, e := Write(many); e != api.OK || len(b) != 1500 {
		t.Errorf("374 items: %d %d", len(b), e)
	} else {
		check(t, b)
	}
	// ErrArg comes ahead of ErrLong.
	for name, items := range map[string][]Item{
		"a last item that isn't valid": append(slices.Repeat(many, 2), Item{Kind: 204}),
		"a first item that isn't one":  append([]Item{{Kind: 203}}, slices.Repeat(many, 2)...),
	} {
		if _, e := Write(items); e != api.ErrArg {
			t.Errorf("%s: %d", name, e)
		}
	}
}

// chunksOf is one chunk of so many bytes, a multiple of 4 with no padding.
func chunksOf(size int) []Chunk {
	c := Chunk{}
	for left := size - 5; left > 0; {
		n := min(left, 200)
		// At least two bytes are needed for the next text.
		if left-n == 1 {
			n--
		}
		c.Texts = append(c.Texts, Text{Kind: 1, Text: strings.Repeat("t", n-2)})
		left -= n
	}
	return []Chunk{c}
}

func randomText(random *rand.Rand, most int) string {
	b := make([]byte, random.Intn(most))
	random.Read(b)
	return string(b)
}

func randomReports(random *rand.Rand) []api.Report {
	list := make([]api.Report, random.Intn(4))
	for i := range list {
		list[i] = api.Report{
			SSRC: random.Uint32(), Loss: random.Intn(256), Lost: int32(random.Intn(1<<24) - 1<<23),
			Highest: random.Uint32(), Jitter: random.Uint32(), LastSR: random.Uint32(), Delay: random.Uint32(),
		}
	}
	return list
}

func randomItem(random *rand.Rand, kind int) Item {
	x := Item{Kind: kind}
	switch kind {
	case 200:
		x.SSRC, x.NTP, x.TS, x.Packets, x.Octets = random.Uint32(), random.Uint64(), random.Uint32(), random.Uint32(), random.Uint32()
		x.Reports = randomReports(random)
	case 201:
		x.SSRC, x.Reports = random.Uint32(), randomReports(random)
	case 202:
		x.Chunks = make([]Chunk, random.Intn(4))
		for i := range x.Chunks {
			x.Chunks[i] = Chunk{SSRC: random.Uint32(), Texts: make([]Text, random.Intn(4))}
			for j := range x.Chunks[i].Texts {
				x.Chunks[i].Texts[j] = Text{Kind: 1 + random.Intn(255), Text: randomText(random, 12)}
			}
		}
	case 203:
		x.Sources, x.Reason = make([]uint32, random.Intn(4)), randomText(random, 12)
		for i := range x.Sources {
			x.Sources[i] = random.Uint32()
		}
	}
	return x
}

func randomItems(random *rand.Rand) []Item {
	items := []Item{randomItem(random, 200+random.Intn(2))}
	for range random.Intn(4) {
		items = append(items, randomItem(random, 200+random.Intn(4)))
	}
	return items
}

// P7.2, P5: what is written is read back, and the other way round.
func TestWrittenIsParsedBack(t *testing.T) {
	random := rand.New(rand.NewSource(1))
	for range 3000 {
		items := randomItems(random)
		b, e := Write(items)
		if e != api.OK || !bytes.Equal(b, model(t, items)) {
			t.Fatalf("Write(%+v): %x %d", items, b, e)
		}
		if back, e := Parse(b); e != api.OK || !slices.EqualFunc(back, items, Same) {
			t.Fatalf("%+v is parsed back as %+v %d", items, back, e)
		}
		check(t, b)
	}
}

func TestAnyBytes(t *testing.T) {
	random := rand.New(rand.NewSource(2))
	for range 20000 {
		b, _ := Write(randomItems(random))
		check(t, b[:random.Intn(len(b)+1)])
		b[random.Intn(len(b))] ^= 1 << random.Intn(8)
		check(t, b)
		short := []byte(randomText(random, 40))
		check(t, short)
		// Few bytes are an item by chance, so the header is made to fit.
		head := []byte{byte(0x80 + random.Intn(3)), byte(200 + random.Intn(4)), 0, byte(len(short) / 4)}
		for i := range short {
			short[i] &= 3
		}
		check(t, slices.Concat([]byte(empty), head, short[:len(short)/4*4]))
	}
}

func TestSame(t *testing.T) {
	for i, x := range fullItems() {
		for j, y := range fullItems() {
			if Same(x, y) != (i == j) {
				t.Errorf("%+v and %+v", x, y)
			}
		}
	}
	// It doesn't matter whether an item is valid.
	whole := func() Item {
		return Item{
			Kind: 7, SSRC: 1, NTP: 2, TS: 3, Packets: 4, Octets: 5, Reports: []api.Report{{SSRC: 1}, {SSRC: 2}},
			Chunks:  []Chunk{{SSRC: 1, Texts: []Text{{Kind: 1, Text: "a"}, {Kind: 2, Text: "b"}}}, {SSRC: 2}},
			Sources: []uint32{1, 2}, Reason: "r",
		}
	}
	if !Same(whole(), whole()) {
		t.Error("the same")
	}
	for name, change := range map[string]func(x *Item){
		"Kind":               func(x *Item) { x.Kind = 8 },
		"SSRC":               func(x *Item) { x.SSRC = 0 },
		"NTP":                func(x *Item) { x.NTP += 1 << 32 },
		"TS":                 func(x *Item) { x.TS = 0 },
		"Packets":            func(x *Item) { x.Packets = 0 },
		"Octets":             func(x *Item) { x.Octets = 0 },
		"a report's SSRC":    func(x *Item) { x.Reports[1].SSRC++ },
		"a report's Loss":    func(x *Item) { x.Reports[1].Loss++ },
		"a report's Lost":    func(x *Item) { x.Reports[1].Lost++ },
		"a report's Highest": func(x *Item) { x.Reports[1].Highest++ },
		"a report's Jitter":  func(x *Item) { x.Reports[1].Jitter++ },
		"a report's LastSR":  func(x *Item) { x.Reports[1].LastSR++ },
		"a report's Delay":   func(x *Item) { x.Reports[1].Delay++ },
		"fewer reports":      func(x *Item) { x.Reports = x.Reports[:1] },
		"a chunk's SSRC":     func(x *Item) { x.Chunks[1].SSRC++ },
		"a text's kind":      func(x *Item) { x.Chunks[0].Texts[1].Kind++ },
		"a text":             func(x *Item) { x.Chunks[0].Texts[1].Text = "B" },
		"fewer texts":        func(x *Item) { x.Chunks[0].Texts = x.Chunks[0].Texts[:1] },
		"a zero text more":   func(x *Item) { x.Chunks[1].Texts = make([]Text, 1) },
		"fewer chunks":       func(x *Item) { x.Chunks = x.Chunks[:1] },
		"a source":           func(x *Item) { x.Sources[1]++ },
		"fewer sources":      func(x *Item) { x.Sources = x.Sources[:1] },
		"a zero source more": func(x *Item) { x.Sources = append(x.Sources, 0) },
		"Reason":             func(x *Item) { x.Reason = "R" },
	} {
		x := whole()
		change(&x)
		if Same(x, whole()) || Same(whole(), x) {
			t.Errorf("%s makes no difference", name)
		}
	}
	bare := Item{Kind: 202, Chunks: []Chunk{{}}}
	lists := Item{Kind: 202, Reports: []api.Report{}, Chunks: []Chunk{{Texts: []Text{}}}, Sources: []uint32{}}
	if !Same(bare, lists) || !Same(lists, bare) || !Same(Item{}, Item{Chunks: []Chunk{}}) {
		t.Error("nil and empty lists are the same")
	}
}

func TestReports(t *testing.T) {
	got, want := reports([]byte(full), fullItems())
	if !slices.Equal(got, want) || len(got) != 3 || got[0].ssrc != 1 || got[1].report.Loss != 1 || got[2].ssrc != 11 {
		t.Errorf("%+v", got)
	}
	// What isn't accepted has none, also if a part of it, or its first 1500 bytes, would be.
	long := strings.Repeat("\x81\xC9\x00\x07"+strings.Repeat("r", 28), 46) + "\x86\xCB\x00\x06" + strings.Repeat("s", 24)
	if got, _ := reports([]byte(long), nil); len(long) != 1500 || len(got) != 46 {
		t.Errorf("%d bytes: %+v", len(long), got)
	}
	for _, b := range []string{"", full[:len(full)-1], full + "\x00", "\x80\xCB\x00\x00" + full, long + "\x80\xCB\x00\x00", long + long} {
		if got, _ := reports([]byte(b), nil); len(got) != 0 {
			t.Errorf("%x: %+v", b, got)
		}
	}
}

// The caller stops after any number of reports, and may begin again.
func TestReportsStop(t *testing.T) {
	_, want := reports(nil, fullItems())
	all := Reports([]byte(full))
	for range 2 {
		for n := 1; n <= len(want); n++ {
			var got []told
			for ssrc, r := range all {
				got = append(got, told{ssrc, r})
				if len(got) == n {
					break
				}
			}
			if !slices.Equal(got, want[:n]) {
				t.Errorf("the first %d: %+v", n, got)
			}
		}
	}
}

// P7.3: bytes may be overwritten once Reports was called.
func TestReportsDoNotRetain(t *testing.T) {
	b := []byte(full)
	all := Reports(b)
	clear(b)
	_, want := reports(nil, fullItems())
	var got []told
	for ssrc, r := range all {
		got = append(got, told{ssrc, r})
	}
	if !slices.Equal(got, want) {
		t.Errorf("%+v", got)
	}
}

// scribble overwrites all memory that an item has, with what may be behind it.
func scribble(x Item) {
	reports, sources := x.Reports[:cap(x.Reports)], x.Sources[:cap(x.Sources)]
	for i := range reports {
		reports[i] = api.Report{SSRC: 777, Loss: 77}
	}
	for i := range sources {
		sources[i] = 777
	}
	chunks := x.Chunks[:cap(x.Chunks)]
	for i := range chunks {
		texts := chunks[i].Texts[:cap(chunks[i].Texts)]
		for j := range texts {
			texts[j] = Text{Kind: 77, Text: "scribble"}
		}
		chunks[i] = Chunk{SSRC: 777}
	}
}

// P7.3: items have memory of their own, and each one its own.
func TestItemsAreNewMemory(t *testing.T) {
	double := []byte("<" + full + full + ">>>")
	b := double[1 : 1+2*len(full)]
	want := slices.Concat(fullItems(), fullItems())
	for i := range want {
		got, _ := Parse(b)
		scribble(got[i])
		for j := range got {
			if j != i && !Same(got[j], want[j]) {
				t.Errorf("the items %d and %d share memory", i, j)
			}
		}
	}
	for i := range want[2].Chunks {
		got, _ := Parse(b)
		scribble(Item{Chunks: got[2].Chunks[i : i+1 : i+1]})
		for j := range got[2].Chunks {
			if j != i && !sameChunk(got[2].Chunks[j], want[2].Chunks[j]) {
				t.Errorf("the chunks %d and %d share memory", i, j)
			}
		}
	}
	got, _ := Parse(b)
	clear(double)
	if !slices.EqualFunc(got, want, Same) {
		t.Errorf("the bytes are retained: %+v", got)
	}
}

func TestWrittenIsNewMemory(t *testing.T) {
	items := fullItems()
	items[0].Reports = append(items[0].Reports, api.Report{SSRC: 99})[:2]
	items[3].Sources = append(items[3].Sources, 99)[:2]
	first, _ := Write(items)
	second, _ := Write(items)
	clear(first[:cap(first)])
	if !slices.EqualFunc(items, fullItems(), Same) || items[0].Reports[:3][2].SSRC != 99 || items[3].Sources[:3][2] != 99 {
		t.Errorf("Write changes its items: %+v", items)
	}
	for _, x := range items {
		scribble(x)
	}
	if string(second) != full {
		t.Errorf("Write retains its items: %x", second)
	}
}
