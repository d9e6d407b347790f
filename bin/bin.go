// Package bin: Numbers and lumps as bytes: see doc/01-bin.md.
package bin

import (
	"bytes"

	"postmark/api"
)

const numberSize = 8

// Num: see P1.1.
func Num(n uint64) []byte {
	out := make([]byte, numberSize)
	for i := range out {
		out[i] = byte(n >> (8 * i))
	}
	return out
}

// Lump: see P1.1.
func Lump(b []byte) []byte {
	return Join(Num(uint64(len(b))), b)
}

// Join: see P1.1.
func Join(l ...[]byte) []byte {
	total := 0
	for _, b := range l {
		total += len(b)
	}
	out := make([]byte, 0, total)
	for _, b := range l {
		out = append(out, b...)
	}
	return out
}

// Reader: see P1.2.
type Reader struct {
	rest []byte
	err  api.Errno
}

// New: see P1.2.
func New(b []byte) *Reader {
	// A copy, for whoever handed b in may change it between two calls.
	return &Reader{rest: bytes.Clone(b)}
}

// Num: see P1.2.
func (r *Reader) Num() uint64 {
	n := uint64(0)
	for i, c := range r.take(numberSize) {
		n |= uint64(c) << (8 * i)
	}
	return n
}

// Lump: see P1.2.
func (r *Reader) Lump(most int) []byte {
	n := r.Num()
	// Held against most ahead of being turned into an int, which a great length doesn't fit.
	if n > uint64(max(most, 0)) {
		r.fail(api.ErrLong)
		return nil
	}
	return r.Raw(int(n))
}

// Raw: see P1.2.
func (r *Reader) Raw(n int) []byte {
	return bytes.Clone(r.take(max(n, 0)))
}

// Left: see P1.2.
func (r *Reader) Left() int {
	return len(r.rest)
}

// Err: see P1.2.
func (r *Reader) Err() api.Errno {
	return r.err
}

// take hands out the Reader's own bytes, for a number needs no copy: who tells them to a caller copies them.
func (r *Reader) take(n int) []byte {
	if n > len(r.rest) {
		r.fail(api.ErrShort)
		return nil
	}
	b := r.rest[:n]
	r.rest = r.rest[n:]
	return b
}

// fail drops the rest, so that no later call finds anything to read, whatever it asks for.
func (r *Reader) fail(e api.Errno) {
	if r.err == api.OK {
		r.err = e
	}
	r.rest = nil
}
