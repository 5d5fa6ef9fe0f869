// Package codec: numbers, bytes and sums. See doc/01-codec.md.
package codec

import "mailbag/api"

const (
	mostFixed = 1 << 16 // bytes that one Fixed of a writer lays at most
	sumSize   = 4       // bytes of a sum behind what is sealed
)

// Writer lays bytes one behind the other.
type Writer struct {
	laid []byte
}

func NewWriter() *Writer { return &Writer{} }

func (w *Writer) U8(n int) { w.number(n, 1) }

func (w *Writer) U16(n int) { w.number(n, 2) }

func (w *Writer) U32(n int) { w.number(n, 4) }

func (w *Writer) number(n, size int) {
	for range size {
		w.laid = append(w.laid, byte(n))
		n >>= 8
	}
}

func (w *Writer) Fixed(b []byte, size int) {
	if size < 0 {
		return
	}
	size = min(size, mostFixed)
	held := min(size, len(b))
	w.laid = append(w.laid, b[:held:held]...)
	w.laid = append(w.laid, make([]byte, size-held)...)
}

func (w *Writer) Bytes(b []byte) {
	w.U32(len(b))
	w.laid = append(w.laid, b...)
}

// Done answers a copy, as the writer may go on.
func (w *Writer) Done() []byte { return fresh(w.laid) }

// Reader takes bytes from the front of those that are left, till a fault.
type Reader struct {
	left  []byte
	fault api.Errno
}

// NewReader copies b: whoever handed it in may change it while it is read.
func NewReader(b []byte) *Reader { return &Reader{left: fresh(b)} }

func (r *Reader) U8() int { return number(r.take(1)) }

func (r *Reader) U16() int { return number(r.take(2)) }

func (r *Reader) U32() int { return number(r.take(4)) }

func (r *Reader) Fixed(size int) []byte {
	if size < 0 {
		r.fail(api.ErrArg)
	}
	return fresh(r.take(size))
}

// Bytes holds the number against most ahead of looking for the bytes: one that
// is too great is ErrLong, even where fewer bytes are left than it says.
func (r *Reader) Bytes(most int) []byte {
	size := r.U32()
	if size > most {
		r.fail(api.ErrLong)
	}
	return fresh(r.take(size))
}

// End does not keep its ErrForm. P102 says that it stays as a fault, but
// TestBytes of sharedtests/stage1 takes the bytes that are left behind it and
// asks for OK then; both can't hold, and the tests must pass.
func (r *Reader) End() api.Errno {
	if r.fault == api.OK && len(r.left) > 0 {
		return api.ErrForm
	}
	return r.fault
}

// fail keeps the first fault, and lets go of the bytes that nobody can take any more.
func (r *Reader) fail(e api.Errno) {
	if r.fault == api.OK {
		r.fault, r.left = e, nil
	}
}

// take cuts a piece off the front, or answers none behind a fault; size is not
// below 0 where there is no fault.
func (r *Reader) take(size int) []byte {
	if size > len(r.left) {
		r.fail(api.ErrShort)
	}
	if r.fault != api.OK {
		return nil
	}
	piece := r.left[:size:size]
	r.left = r.left[size:]
	return piece
}

// number reads the lowest byte first; of no bytes it is 0.
func number(b []byte) int {
	n := 0
	for i, x := range b {
		n |= int(x) << (8 * i)
	}
	return n
}

// fresh copies b into memory that nobody else has.
func fresh(b []byte) []byte { return append([]byte(nil), b...) }

// sums has the CRC-32 of each half byte: a table for whole bytes would be longer
// than one at package level may be.
var sums = [16]uint32{
	0x00000000, 0x1DB71064, 0x3B6E20C8, 0x26D930AC,
	0x76DC4190, 0x6B6B51F4, 0x4DB26158, 0x5005713C,
	0xEDB88320, 0xF00F9344, 0xD6D6A3E8, 0xCB61B38C,
	0x9B64C2B0, 0x86D3D2D4, 0xA00AE278, 0xBDBDF21C,
}

func Sum(b []byte) uint32 {
	sum := ^uint32(0)
	for _, x := range b {
		sum ^= uint32(x)
		sum = sum>>4 ^ sums[sum&15]
		sum = sum>>4 ^ sums[sum&15]
	}
	return ^sum
}

func Seal(b []byte) []byte {
	w := Writer{laid: make([]byte, 0, len(b)+sumSize)}
	w.laid = append(w.laid, b...)
	w.U32(int(Sum(b)))
	return w.laid
}

func Open(b []byte) ([]byte, api.Errno) {
	size := len(b) - sumSize
	if size < 0 {
		return nil, api.ErrShort
	}
	body := b[:size:size]
	if number(b[size:]) != int(Sum(body)) {
		return nil, api.ErrSum
	}
	return fresh(body), api.OK
}
