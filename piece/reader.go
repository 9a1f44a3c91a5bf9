package piece

import (
	"bytes"
	"slices"

	"byname/api"
)

// Reader reads bytes; once something couldn't be read, it is BAD, and reads
// no more.
type Reader struct {
	rest  []byte
	fault api.Errno
}

// New: at the beginning (P6.2).
func New(b []byte) *Reader { return &Reader{rest: bytes.Clone(b)} }

// Left: how many bytes weren't read yet (P6.2).
func (r *Reader) Left() int { return len(r.rest) }

// Err: 0, or why it is BAD (P6.2).
func (r *Reader) Err() api.Errno { return r.fault }

// Fixed: the next number of so many bytes; others than 0 to 8 as the nearer of
// these, as they are written (P6.3).
func (r *Reader) Fixed(size int) uint64 {
	var n uint64
	for _, digit := range slices.Backward(r.take(sizeWithin(size))) {
		n = n<<byteBits | uint64(digit)
	}
	return n
}

// Count: the next one, if it is as Count writes it, and not above most (P6.3).
func (r *Reader) Count(most uint64) uint64 {
	ahead := r.rest
	first := byte(r.Fixed(1))
	n := uint64(first)
	if size := sizeBehind(first); size > 0 {
		n = r.Fixed(size)
	}
	if r.fault == api.OK && (firstOf(n) != first || n > most) {
		r.fault = api.ErrForm
	}
	if r.fault != api.OK {
		r.rest = ahead
		return 0
	}
	return n
}

// Raw: the next n bytes; none, if n is below 1 (P6.3).
func (r *Reader) Raw(n int) []byte {
	if n < 1 {
		return nil
	}
	return bytes.Clone(r.take(n))
}

// Text: the next one, if its length isn't above most (P6.3).
func (r *Reader) Text(most int) []byte {
	ahead := r.rest
	n := r.Count(uint64(max(most, 0)))
	text := r.Raw(int(n))
	if r.fault != api.OK {
		// Its length was read, but a Text is read whole, or not at all.
		r.rest = ahead
	}
	return text
}

// take is the next n bytes, where they stand: n is from 0 on. None, and BAD,
// if there aren't so many.
func (r *Reader) take(n int) []byte {
	if r.fault != api.OK {
		return nil
	}
	if n > len(r.rest) {
		r.fault = api.ErrShort
		return nil
	}
	l := r.rest[:n]
	r.rest = r.rest[n:]
	return l
}
