// Package cursor is layer 2: numbers of whole bytes.
package cursor

import (
	"slices"

	"packsaddle/api"
)

// Cursor stands at a place of bytes.
type Cursor struct {
	bytes []byte
	at    int
	err   api.Errno
}

// Big puts a number, the highest byte first.
func Big(b []byte, v uint64, n int) []byte {
	out := grown(b, n)
	for i := range len(out) - len(b) {
		out[len(out)-1-i] = byte(v >> (8 * i))
	}
	return out
}

// Little puts a number, the lowest byte first.
func Little(b []byte, v uint64, n int) []byte {
	out := grown(b, n)
	for i := range len(out) - len(b) {
		out[len(b)+i] = byte(v >> (8 * i))
	}
	return out
}

// New stands at the beginning. It keeps a copy, so that what becomes of b later isn't read.
func New(b []byte) *Cursor { return &Cursor{bytes: slices.Clone(b)} }

// Fail keeps the first error.
func (c *Cursor) Fail(e api.Errno) {
	if c == nil || c.err != api.OK {
		return
	}
	c.err = e
}

// Err is the error.
func (c *Cursor) Err() api.Errno {
	if c == nil {
		return api.ErrArg
	}
	return c.err
}

// Left is how many bytes are left.
func (c *Cursor) Left() int {
	if c == nil {
		return 0
	}
	return len(c.bytes) - c.at
}

// At is how many bytes were read.
func (c *Cursor) At() int {
	if c == nil {
		return 0
	}
	return c.at
}

// Take reads bytes.
func (c *Cursor) Take(n int) []byte { return slices.Clone(c.next(n, n >= 0)) }

// Big reads a number.
func (c *Cursor) Big(n int) uint64 {
	v := uint64(0)
	for _, x := range c.next(n, isWidth(n)) {
		v = v<<8 | uint64(x)
	}
	return v
}

// Little reads a number.
func (c *Cursor) Little(n int) uint64 {
	v := uint64(0)
	for i, x := range c.next(n, isWidth(n)) {
		v |= uint64(x) << (8 * i)
	}
	return v
}

// End asks whether all was read.
func (c *Cursor) End() api.Errno {
	if c.Left() > 0 {
		c.Fail(api.ErrForm)
	}
	return c.Err()
}

// next passes over n bytes, and answers the cursor's own: none, if there is an error, or n may not be.
func (c *Cursor) next(n int, may bool) []byte {
	if !may {
		c.Fail(api.ErrArg)
	} else if n > c.Left() {
		c.Fail(api.ErrEnd)
	}
	if c.Err() != api.OK {
		return nil
	}
	c.at += n
	return c.bytes[c.at-n : c.at]
}

// grown is a copy of b with room for a number of n bytes behind it, and with none, if no number has so many.
func grown(b []byte, n int) []byte {
	if !isWidth(n) {
		n = 0
	}
	out := make([]byte, len(b)+n)
	copy(out, b)
	return out
}

func isWidth(n int) bool { return n == 1 || n == 2 || n == 4 || n == 8 }
