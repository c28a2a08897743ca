// Package code lays numbers and texts as bytes, and reads them again.
package code

import (
	"bytes"

	"carrier/api"
)

const (
	base      = 128 // of a number's digits; a byte has it added if another digit follows
	digitBits = 7
	maxDigits = 10 // as many as 2^64 - 1 has
	lastTop   = 1  // the tenth digit of 2^64 - 1
)

// Writer lays bytes one behind the other. Its zero value has none.
type Writer struct {
	laid []byte
}

// Num lays n's digits, the lowest first.
func (w *Writer) Num(n uint64) *Writer {
	if w == nil {
		return nil
	}
	for n >= base {
		w.laid = append(w.laid, byte(n%base+base))
		n /= base
	}
	w.laid = append(w.laid, byte(n))
	return w
}

// Int lays a number that may be below 0.
func (w *Writer) Int(n int64) *Writer {
	if n < 0 {
		return w.Num(^(uint64(n) << 1)) // -2n - 1, for which an int64 may be too small
	}
	return w.Num(uint64(n) << 1)
}

// Text lays how many bytes s has, and these.
func (w *Writer) Text(s string) *Writer {
	if w == nil {
		return nil
	}
	w.Num(uint64(len(s)))
	w.laid = append(w.laid, s...)
	return w
}

// Bytes is all that was laid so far: a copy, for the writer goes on with its own.
func (w *Writer) Bytes() []byte {
	if w == nil {
		return nil
	}
	return bytes.Clone(w.laid)
}

// Reader reads bytes from the beginning on, up to the first error.
type Reader struct {
	rest []byte // none behind an error
	err  api.Errno
}

// NewReader reads a copy of p, for p may be written over meanwhile.
func NewReader(p []byte) *Reader {
	return &Reader{rest: bytes.Clone(p)}
}

// Error is the first error that was met.
func (r *Reader) Error() api.Errno {
	if r == nil {
		return api.ErrNone
	}
	return r.err
}

// Left is how many bytes aren't read.
func (r *Reader) Left() int {
	if r == nil {
		return 0
	}
	return len(r.rest)
}

// Num reads a number; 0, if there is an error.
func (r *Reader) Num() uint64 {
	if r.Error() != api.OK {
		return 0
	}
	n, size, err := firstNumber(r.rest)
	if err != api.OK {
		r.fail(err)
		return 0
	}
	r.rest = r.rest[size:]
	return n
}

// Int reads a number that may be below 0; 0, if there is an error.
func (r *Reader) Int() int64 {
	n := r.Num()
	half := int64(n >> 1)
	if n&1 == 1 {
		return ^half
	}
	return half
}

// Text reads a text of at most so many bytes; an empty one, if there is an error.
func (r *Reader) Text(most int) string {
	size := r.Num()
	if r.Error() != api.OK {
		return ""
	}
	if size > uint64(max(most, 0)) {
		r.fail(api.ErrForm)
		return ""
	}
	if size > uint64(len(r.rest)) {
		r.fail(api.ErrShort)
		return ""
	}
	s := string(r.rest[:size])
	r.rest = r.rest[size:]
	return s
}

// End tells whether all was read, without an error. It isn't a read: bytes that
// are left are an error of its own, not the reader's.
func (r *Reader) End() api.Errno {
	if r.Error() != api.OK {
		return r.Error()
	}
	if r.Left() > 0 {
		return api.ErrForm
	}
	return api.OK
}

// fail lets go of the rest, too, so that nothing is left to be read.
func (r *Reader) fail(err api.Errno) {
	r.rest = nil
	r.err = err
}

// firstNumber is the number with which p begins, and how many bytes it has.
func firstNumber(p []byte) (n uint64, size int, err api.Errno) {
	for i, b := range p[:min(len(p), maxDigits)] {
		if b < base {
			return lastDigit(n, i, b)
		}
		n |= uint64(b-base) << (digitBits * i)
	}
	if len(p) >= maxDigits {
		return 0, 0, api.ErrForm
	}
	return 0, 0, api.ErrShort
}

// lastDigit ends n with the digit d, ahead of which i others stood.
func lastDigit(n uint64, i int, d byte) (uint64, int, api.Errno) {
	needless := i > 0 && d == 0
	tooGreat := i == maxDigits-1 && d > lastTop
	if needless || tooGreat {
		return 0, 0, api.ErrForm
	}
	return n | uint64(d)<<(digitBits*i), i + 1, api.OK
}
