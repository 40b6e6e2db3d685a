package cursor_test

import (
	"bytes"
	"math"
	"math/rand"
	"testing"

	"packsaddle/api"
	"packsaddle/cursor"
)

// wrongWidths are numbers of bytes that no number has.
var wrongWidths = []int{0, 3, 5, 6, 7, 9, 16, 64, -1, -2, -8, math.MinInt, math.MaxInt}

func wantBytes(t *testing.T, got []byte, want ...byte) {
	t.Helper()
	if !bytes.Equal(got, want) {
		t.Errorf("bytes %v, want %v", got, want)
	}
}

func wantNumber(t *testing.T, got, want uint64) {
	t.Helper()
	if got != want {
		t.Errorf("number %#x, want %#x", got, want)
	}
}

func wantState(t *testing.T, c *cursor.Cursor, at, left int, e api.Errno) {
	t.Helper()
	if c.At() != at || c.Left() != left || c.Err() != e {
		t.Errorf("at %d, left %d, error %d; want at %d, left %d, error %d", c.At(), c.Left(), c.Err(), at, left, e)
	}
}

// wantStuck asks that no call reads on, or changes the error.
func wantStuck(t *testing.T, c *cursor.Cursor, at, left int, e api.Errno) {
	t.Helper()
	for _, n := range []int{-1, 0, 1, 2, 3, 4, 8, 1000} {
		wantNumber(t, c.Big(n), 0)
		wantNumber(t, c.Little(n), 0)
		wantBytes(t, c.Take(n))
		wantState(t, c, at, left, e)
	}
	c.Fail(api.ErrImage)
	c.Fail(api.OK)
	if c.End() != e {
		t.Errorf("End changed the error %d", e)
	}
	wantState(t, c, at, left, e)
}

// P2.1: numbers are put behind b by their lowest bytes.
func TestPut(t *testing.T) {
	const v = 0x0123456789abcdef
	b := []byte{7, 8}
	wantBytes(t, cursor.Big(nil, 258, 2), 1, 2)
	wantBytes(t, cursor.Little(nil, 258, 2), 2, 1)
	wantBytes(t, cursor.Big(b, v, 1), 7, 8, 0xef)
	wantBytes(t, cursor.Big(b, v, 2), 7, 8, 0xcd, 0xef)
	wantBytes(t, cursor.Big(b, v, 4), 7, 8, 0x89, 0xab, 0xcd, 0xef)
	wantBytes(t, cursor.Big(b, v, 8), 7, 8, 1, 0x23, 0x45, 0x67, 0x89, 0xab, 0xcd, 0xef)
	wantBytes(t, cursor.Little(b, v, 1), 7, 8, 0xef)
	wantBytes(t, cursor.Little(b, v, 2), 7, 8, 0xef, 0xcd)
	wantBytes(t, cursor.Little(b, v, 4), 7, 8, 0xef, 0xcd, 0xab, 0x89)
	wantBytes(t, cursor.Little(b, v, 8), 7, 8, 0xef, 0xcd, 0xab, 0x89, 0x67, 0x45, 0x23, 1)
	wantBytes(t, cursor.Big(nil, math.MaxUint64, 8), 255, 255, 255, 255, 255, 255, 255, 255)
}

// P2.1: nothing is put, if n is no number's width.
func TestPutWrongWidth(t *testing.T) {
	for _, n := range wrongWidths {
		wantBytes(t, cursor.Big([]byte{7, 8}, math.MaxUint64, n), 7, 8)
		wantBytes(t, cursor.Little([]byte{7, 8}, math.MaxUint64, n), 7, 8)
		wantBytes(t, cursor.Big(nil, 1, n))
		wantBytes(t, cursor.Little(nil, 1, n))
	}
}

// P2.1: what is answered is new memory, also where b has room behind it, and where nothing is put.
func TestPutMemory(t *testing.T) {
	for _, put := range []func([]byte, uint64, int) []byte{cursor.Big, cursor.Little} {
		for _, n := range []int{1, 2, 4, 8, 0, 3} {
			room := make([]byte, 32)
			b := room[:2]
			first := put(b, math.MaxUint64, n)
			second := put(b, 0, n)
			for i := range first {
				first[i] = 5
			}
			wantBytes(t, room, make([]byte, 32)...)
			wantBytes(t, second, make([]byte, len(second))...)
		}
	}
}

// P2.1: a cursor's numbers and bytes, one behind the other.
func TestRead(t *testing.T) {
	c := cursor.New([]byte{1, 2, 3, 4, 5, 6, 7, 8, 9, 10, 11, 12, 13, 14, 15, 16, 17})
	wantState(t, c, 0, 17, api.OK)
	wantNumber(t, c.Big(1), 1)
	wantNumber(t, c.Big(2), 0x0203)
	wantNumber(t, c.Big(4), 0x04050607)
	wantBytes(t, c.Take(0))
	wantBytes(t, c.Take(2), 8, 9)
	wantState(t, c, 9, 8, api.OK)
	wantNumber(t, c.Big(8), 0x0a0b0c0d0e0f1011)
	wantState(t, c, 17, 0, api.OK)
	wantBytes(t, c.Take(0))
	if c.End() != api.OK {
		t.Error("End at the end:", c.Err())
	}
	d := cursor.New([]byte{1, 2, 3, 4, 5, 6, 7, 8, 9, 10, 11, 12, 13, 14, 15})
	wantNumber(t, d.Little(1), 1)
	wantNumber(t, d.Little(2), 0x0302)
	wantNumber(t, d.Little(4), 0x07060504)
	wantNumber(t, d.Little(8), 0x0f0e0d0c0b0a0908)
	wantState(t, d, 15, 0, api.OK)
}

// P2.1: a width that may not be is ErrArg, also where there would be too few bytes, and nothing is read.
func TestReadWrongWidth(t *testing.T) {
	for _, n := range wrongWidths {
		for _, b := range [][]byte{nil, {1, 2, 3, 4, 5, 6, 7, 8, 9, 10}} {
			c := cursor.New(b)
			wantNumber(t, c.Big(n), 0)
			wantStuck(t, c, 0, len(b), api.ErrArg)
			c = cursor.New(b)
			wantNumber(t, c.Little(n), 0)
			wantStuck(t, c, 0, len(b), api.ErrArg)
		}
	}
	for _, n := range []int{-1, math.MinInt} {
		c := cursor.New([]byte{1, 2})
		c.Big(1)
		wantBytes(t, c.Take(n))
		wantStuck(t, c, 1, 1, api.ErrArg)
	}
}

// P2.1: too few bytes are ErrEnd, and none of them is read.
func TestReadTooFew(t *testing.T) {
	for _, n := range []int{1, 2, 4, 8} {
		b := bytes.Repeat([]byte{9}, n)
		c := cursor.New(b)
		c.Take(1)
		wantNumber(t, c.Big(n), 0)
		wantStuck(t, c, 1, n-1, api.ErrEnd)
		c = cursor.New(b)
		c.Take(1)
		wantNumber(t, c.Little(n), 0)
		wantStuck(t, c, 1, n-1, api.ErrEnd)
	}
	for _, n := range []int{3, 1000, math.MaxInt} {
		c := cursor.New([]byte{1, 2, 3})
		c.Take(1)
		wantBytes(t, c.Take(n))
		wantStuck(t, c, 1, 2, api.ErrEnd)
	}
}

// P2.1: Fail keeps the first error, whatever its number; OK is none.
func TestFail(t *testing.T) {
	for _, e := range []api.Errno{api.ErrArg, api.ErrForm, api.ErrImage, -1, 99} {
		c := cursor.New([]byte{1, 2, 3})
		wantNumber(t, c.Big(1), 1)
		c.Fail(api.OK)
		wantState(t, c, 1, 2, api.OK)
		c.Fail(e)
		c.Fail(api.ErrCode)
		wantStuck(t, c, 1, 2, e)
	}
}

// P2.1: End tells the error there is, else ErrForm while bytes are left, which stays.
func TestEnd(t *testing.T) {
	c := cursor.New([]byte{1, 2})
	c.Take(1)
	if c.End() != api.ErrForm {
		t.Error("End with bytes left:", c.Err())
	}
	wantStuck(t, c, 1, 1, api.ErrForm)
	c = cursor.New(nil)
	if c.End() != api.OK || c.End() != api.OK {
		t.Error("End of nothing:", c.Err())
	}
	c.Fail(api.ErrName)
	if c.End() != api.ErrName {
		t.Error("End at the end, with an error:", c.Err())
	}
}

// P2.1: a cursor shares memory neither with what it was handed nor with what it answers.
func TestMemory(t *testing.T) {
	b := []byte{1, 2, 3}
	c := cursor.New(b)
	b[0], b[1] = 9, 9
	taken := c.Take(1)
	wantBytes(t, taken, 1)
	taken = append(taken, 7)
	taken[0] = 8
	wantNumber(t, c.Big(1), 2)
	taken = c.Take(1)
	taken[0] = 8
	wantBytes(t, b, 9, 9, 3)
}

// P2.1: a nil cursor answers 0, nothing and ErrArg.
func TestNil(t *testing.T) {
	var c *cursor.Cursor
	wantStuck(t, c, 0, 0, api.ErrArg)
	c.Fail(api.ErrEnd)
	wantStuck(t, c, 0, 0, api.ErrArg)
}

// P2.2: what is put is read, its lowest bytes at least.
func TestPutIsRead(t *testing.T) {
	random := rand.New(rand.NewSource(1))
	widths := []int{1, 2, 4, 8}
	for range 300 {
		type number struct {
			v   uint64
			n   int
			big bool
		}
		var b []byte
		numbers := make([]number, random.Intn(40))
		for i := range numbers {
			x := number{random.Uint64(), widths[random.Intn(4)], random.Intn(2) == 0}
			numbers[i] = x
			if x.big {
				b = cursor.Big(b, x.v, x.n)
			} else {
				b = cursor.Little(b, x.v, x.n)
			}
		}
		c := cursor.New(b)
		for _, x := range numbers {
			want := x.v << (64 - 8*x.n) >> (64 - 8*x.n)
			if x.big {
				wantNumber(t, c.Big(x.n), want)
			} else {
				wantNumber(t, c.Little(x.n), want)
			}
		}
		if c.End() != api.OK {
			t.Fatal("not all was read:", c.Err())
		}
	}
}
