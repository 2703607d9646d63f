package wire

import "conflux/api"

// Reader is bytes, of which some were read.
type Reader struct {
	rest []byte
	run  *run // nil in a Reader that no call of parse was given
}

// run is one call of parse. The copies that parse makes of its Reader share it.
type run struct {
	over  bool
	fault api.Errno
}

// failure aborts the call of parse in which reading has ended.
type failure struct{ run *run }

// live tells whether parse is being called: only then is a failure caught,
// and only then are the bytes the reader's to read.
func (r *Reader) live() bool { return r.run != nil && !r.run.over }

// Fail ends the reading.
func (r *Reader) Fail(e api.Errno) {
	if !r.live() {
		return
	}
	if e == api.OK {
		e = api.ErrForm
	}
	// Reading ends once, even if parse recovers and goes on.
	if r.run.fault == api.OK {
		r.run.fault = e
	}
	panic(failure{r.run})
}

// Left is how many bytes are left.
func (r *Reader) Left() int {
	if !r.live() {
		return 0
	}
	return len(r.rest)
}

// next is the next bytes, still in the memory of the caller.
func (r *Reader) next(n int) []byte {
	if n > r.Left() {
		r.Fail(api.ErrShort)
		return nil
	}
	bytes := r.rest[:n]
	r.rest = r.rest[n:]
	return bytes
}

func (r *Reader) number(size int) uint64 {
	var n uint64
	for _, b := range r.next(size) {
		n = n<<8 | uint64(b)
	}
	return n
}

// Byte is a number of one byte.
func (r *Reader) Byte() int { return int(r.number(1)) }

// Word is a number of two bytes.
func (r *Reader) Word() uint16 { return uint16(r.number(2)) }

// Long is a number of four bytes.
func (r *Reader) Long() uint32 { return uint32(r.number(4)) }

// Wide is a number of eight bytes.
func (r *Reader) Wide() uint64 { return r.number(8) }

// Take is so many bytes.
func (r *Reader) Take(n int) []byte { return append([]byte(nil), r.next(max(n, 0))...) }

// Rest is all bytes that are left.
func (r *Reader) Rest() []byte { return r.Take(r.Left()) }
