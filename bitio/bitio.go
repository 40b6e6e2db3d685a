// Package bitio is layer 1: bits of bytes, the lowest first.
package bitio

import (
	"slices"

	"packsaddle/api"
)

// maxNumber is how many bits a number has at most.
const maxNumber = 32

// Writer writes bits.
type Writer struct {
	bytes []byte
	count int
}

// Reader reads bits.
type Reader struct {
	bytes []byte
	at    int
}

// NewWriter has none.
func NewWriter() *Writer { return &Writer{} }

// Put writes a number's lowest bits.
func (w *Writer) Put(v uint32, n int) {
	if w == nil || !isWidth(n) {
		return
	}
	for n > 0 {
		used := w.count % 8
		if used == 0 {
			w.bytes = append(w.bytes, 0)
		}
		part := min(8-used, n)
		w.bytes[len(w.bytes)-1] |= byte(lowest(v, part) << used)
		v >>= part
		n -= part
		w.count += part
	}
}

// Align fills a byte up.
func (w *Writer) Align() {
	if w == nil {
		return
	}
	w.count = 8 * len(w.bytes)
}

// Len is how many bits there are.
func (w *Writer) Len() int {
	if w == nil {
		return 0
	}
	return w.count
}

// Bytes are what was written.
func (w *Writer) Bytes() []byte {
	if w == nil {
		return nil
	}
	return slices.Clone(w.bytes)
}

// NewReader reads bytes. It keeps a copy of them, so that what becomes of b later isn't read.
func NewReader(b []byte) *Reader { return &Reader{bytes: slices.Clone(b)} }

// Left is how many bits are left.
func (r *Reader) Left() int {
	if r == nil {
		return 0
	}
	return 8*len(r.bytes) - r.at
}

// Get reads a number.
func (r *Reader) Get(n int) (uint32, api.Errno) {
	if r == nil || !isWidth(n) {
		return 0, api.ErrArg
	}
	if n > r.Left() {
		return 0, api.ErrEnd
	}
	v, got := uint32(0), 0
	for got < n {
		used := r.at % 8
		part := min(8-used, n-got)
		v |= lowest(uint32(r.bytes[r.at/8])>>used, part) << got
		got += part
		r.at += part
	}
	return v, api.OK
}

// Align passes bits over.
func (r *Reader) Align() {
	if r == nil {
		return
	}
	r.at = (r.at + 7) / 8 * 8
}

// Take reads whole bytes.
func (r *Reader) Take(n int) ([]byte, api.Errno) {
	if r == nil || n < 0 {
		return nil, api.ErrArg
	}
	r.Align()
	if n > r.Left()/8 {
		return nil, api.ErrEnd
	}
	from := r.at / 8
	r.at += 8 * n
	return slices.Clone(r.bytes[from : from+n]), api.OK
}

// Reverse turns bits round.
func Reverse(v uint32, n int) uint32 {
	if !isWidth(n) {
		return 0
	}
	out := uint32(0)
	for range n {
		out = out<<1 | v&1
		v >>= 1
	}
	return out
}

func isWidth(n int) bool { return n >= 0 && n <= maxNumber }

// lowest is what the n lowest bits of v tell, n being 0 to 32.
func lowest(v uint32, n int) uint32 { return v & (1<<n - 1) }
