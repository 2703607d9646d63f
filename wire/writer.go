package wire

// Writer is bytes that were written.
type Writer struct{ bytes []byte }

func (w *Writer) number(n uint64, size int) {
	for i := size - 1; i >= 0; i-- {
		w.bytes = append(w.bytes, byte(n>>(8*i)))
	}
}

// Byte writes a number of one byte.
func (w *Writer) Byte(n int) { w.number(uint64(n), 1) }

// Word writes a number of two bytes.
func (w *Writer) Word(n uint16) { w.number(uint64(n), 2) }

// Long writes a number of four bytes.
func (w *Writer) Long(n uint32) { w.number(uint64(n), 4) }

// Wide writes a number of eight bytes.
func (w *Writer) Wide(n uint64) { w.number(n, 8) }

// Put writes bytes.
func (w *Writer) Put(b []byte) { w.bytes = append(w.bytes, b...) }

// Len is how many bytes there are.
func (w *Writer) Len() int { return len(w.bytes) }

// Done is all bytes.
func (w *Writer) Done() []byte { return append([]byte(nil), w.bytes...) }
