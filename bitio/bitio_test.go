package bitio_test

import (
	"bytes"
	"math"
	"math/rand"
	"testing"

	"packsaddle/api"
	"packsaddle/bitio"
)

func wantBits(t *testing.T, r *bitio.Reader, n int, v uint32, e api.Errno, left int) {
	t.Helper()
	gotV, gotE := r.Get(n)
	if gotV != v || gotE != e || r.Left() != left {
		t.Errorf("Get(%d) = %d, %d with %d left; want %d, %d with %d left", n, gotV, gotE, r.Left(), v, e, left)
	}
}

func wantTaken(t *testing.T, r *bitio.Reader, n int, b []byte, e api.Errno, left int) {
	t.Helper()
	gotB, gotE := r.Take(n)
	if !bytes.Equal(gotB, b) || gotE != e || r.Left() != left {
		t.Errorf("Take(%d) = %v, %d with %d left; want %v, %d with %d left", n, gotB, gotE, r.Left(), b, e, left)
	}
}

func wantWritten(t *testing.T, w *bitio.Writer, bits int, b ...byte) {
	t.Helper()
	if w.Len() != bits || !bytes.Equal(w.Bytes(), b) {
		t.Errorf("written: %d bits, %v; want %d bits, %v", w.Len(), w.Bytes(), bits, b)
	}
}

// P1.1: the lowest bit of a number stands in the lowest free bit of a byte.
func TestPutOrder(t *testing.T) {
	w := bitio.NewWriter()
	wantWritten(t, w, 0)
	w.Put(1, 1)
	wantWritten(t, w, 1, 1)
	w.Put(2, 2)
	wantWritten(t, w, 3, 5)
	w.Put(0x1ff, 9)
	wantWritten(t, w, 12, 0xfd, 0x0f)
	w.Put(0x12345678, 32)
	wantWritten(t, w, 44, 0xfd, 0x8f, 0x67, 0x45, 0x23, 0x01)
}

// P1.1: bits of v above the lowest n aren't written.
func TestPutCutsNumber(t *testing.T) {
	w := bitio.NewWriter()
	w.Put(math.MaxUint32, 3)
	wantWritten(t, w, 3, 7)
	w.Put(math.MaxUint32-1, 4)
	wantWritten(t, w, 7, 0x77)
	w.Put(math.MaxUint32, 0)
	wantWritten(t, w, 7, 0x77)
	w.Put(math.MaxUint32, 32)
	wantWritten(t, w, 39, 0xf7, 0xff, 0xff, 0xff, 0x7f)
}

// P1.1: numbers of bits that may not be write nothing.
func TestPutWrongWidth(t *testing.T) {
	w := bitio.NewWriter()
	w.Put(1, 2)
	for _, n := range []int{-1, -32, 33, 64, 256, math.MinInt, math.MaxInt} {
		w.Put(math.MaxUint32, n)
		wantWritten(t, w, 2, 1)
	}
}

// P1.1: aligning a writer adds bits of 0, and only where a byte has begun.
func TestWriterAlign(t *testing.T) {
	w := bitio.NewWriter()
	w.Align()
	wantWritten(t, w, 0)
	w.Put(1, 1)
	w.Align()
	wantWritten(t, w, 8, 1)
	w.Align()
	wantWritten(t, w, 8, 1)
	w.Put(3, 2)
	wantWritten(t, w, 10, 1, 3)
	w.Put(0, 6)
	w.Align()
	wantWritten(t, w, 16, 1, 3)
}

// P1.1: answers are new memory, and asking for them changes nothing.
func TestBytesAreNew(t *testing.T) {
	w := bitio.NewWriter()
	w.Put(5, 4)
	b := w.Bytes()
	b[0] = 0xff
	wantWritten(t, w, 4, 5)
	kept := w.Bytes()
	w.Put(1, 1)
	wantWritten(t, w, 5, 0x15)
	if kept[0] != 5 {
		t.Error("an answer changed by a later Put:", kept)
	}
}

// P1.1: Get at ordinary numbers, over the borders of bytes, and at all widths' ends.
func TestGet(t *testing.T) {
	r := bitio.NewReader([]byte{0xfd, 0x8f, 0x67, 0x45, 0x23, 0x01})
	wantBits(t, r, 0, 0, api.OK, 48)
	wantBits(t, r, 1, 1, api.OK, 47)
	wantBits(t, r, 2, 2, api.OK, 45)
	wantBits(t, r, 9, 0x1ff, api.OK, 36)
	wantBits(t, r, 32, 0x12345678, api.OK, 4)
	wantBits(t, r, 4, 0, api.OK, 0)
	wantBits(t, r, 0, 0, api.OK, 0)
	wantBits(t, r, 1, 0, api.ErrEnd, 0)
}

// P1.1: a Get that fails reads nothing; a wrong width is told ahead of too few bits.
func TestGetErrors(t *testing.T) {
	r := bitio.NewReader([]byte{0xa5, 0x0f})
	wantBits(t, r, 4, 5, api.OK, 12)
	wantBits(t, r, 13, 0, api.ErrEnd, 12)
	wantBits(t, r, 32, 0, api.ErrEnd, 12)
	for _, n := range []int{-1, 33, 64, math.MinInt, math.MaxInt} {
		wantBits(t, r, n, 0, api.ErrArg, 12)
	}
	wantBits(t, r, 12, 0xfa, api.OK, 0)
	wantBits(t, r, 33, 0, api.ErrArg, 0)
}

// P1.1: aligning a reader passes over what is left of a byte that has begun.
func TestReaderAlign(t *testing.T) {
	r := bitio.NewReader([]byte{1, 2, 3})
	r.Align()
	wantBits(t, r, 1, 1, api.OK, 23)
	r.Align()
	wantBits(t, r, 8, 2, api.OK, 8)
	r.Align()
	wantBits(t, r, 7, 3, api.OK, 1)
	r.Align()
	wantBits(t, r, 0, 0, api.OK, 0)
	r.Align()
	wantBits(t, r, 1, 0, api.ErrEnd, 0)
}

// P1.1: Take aligns; with too few bytes that is all it does; with n below 0 it does nothing.
func TestTake(t *testing.T) {
	r := bitio.NewReader([]byte{1, 2, 3, 4, 5})
	wantTaken(t, r, 2, []byte{1, 2}, api.OK, 24)
	wantBits(t, r, 1, 1, api.OK, 23)
	wantTaken(t, r, -1, nil, api.ErrArg, 23)
	wantTaken(t, r, math.MinInt, nil, api.ErrArg, 23)
	wantTaken(t, r, 3, nil, api.ErrEnd, 16)
	wantTaken(t, r, math.MaxInt, nil, api.ErrEnd, 16)
	wantTaken(t, r, math.MaxInt/8+1, nil, api.ErrEnd, 16)
	wantBits(t, r, 3, 4, api.OK, 13)
	wantTaken(t, r, 0, nil, api.OK, 8)
	wantTaken(t, r, 1, []byte{5}, api.OK, 0)
	wantTaken(t, r, 0, nil, api.OK, 0)
	wantTaken(t, r, 1, nil, api.ErrEnd, 0)
}

// P1.1: Take at each place of a longer row, of as many bytes as are left, and of one more.
func TestTakeAll(t *testing.T) {
	b := make([]byte, 64)
	for i := range b {
		b[i] = byte(i)
	}
	for at := range len(b) + 1 {
		r := bitio.NewReader(b)
		wantTaken(t, r, at, b[:at], api.OK, 8*(len(b)-at))
		wantTaken(t, r, len(b)-at+1, nil, api.ErrEnd, 8*(len(b)-at))
		wantTaken(t, r, len(b)-at, b[at:], api.OK, 0)
	}
}

// P1.1: a reader shares memory neither with what it was handed nor with what it answers.
func TestReaderMemory(t *testing.T) {
	b := []byte{1, 2, 3}
	r := bitio.NewReader(b)
	b[0], b[1] = 9, 9
	wantBits(t, r, 8, 1, api.OK, 16)
	taken, _ := r.Take(1)
	if taken[0] != 2 {
		t.Error("the reader reads what was changed later:", taken)
	}
	taken = append(taken, 7)
	taken[0] = 8
	wantBits(t, r, 8, 3, api.OK, 0)
	if b[2] != 3 {
		t.Error("the reader changed its argument:", b)
	}
}

// P1.1: a reader of nothing has nothing.
func TestEmptyReader(t *testing.T) {
	for _, r := range []*bitio.Reader{bitio.NewReader(nil), bitio.NewReader([]byte{})} {
		r.Align()
		wantBits(t, r, 0, 0, api.OK, 0)
		wantBits(t, r, 1, 0, api.ErrEnd, 0)
		wantTaken(t, r, 0, nil, api.OK, 0)
		wantTaken(t, r, 1, nil, api.ErrEnd, 0)
	}
}

// P1.1: bits are turned round within the lowest n, and all others are dropped.
func TestReverse(t *testing.T) {
	for _, x := range []struct {
		v    uint32
		n    int
		want uint32
	}{
		{1, 4, 8}, {0xfffffff6, 4, 6}, {0xb, 4, 0xd}, {1, 1, 1}, {2, 1, 0},
		{1, 32, 1 << 31}, {0x80000001, 31, 1 << 30}, {0x12345678, 32, 0x1e6a2c48},
		{math.MaxUint32, 32, math.MaxUint32}, {math.MaxUint32, 0, 0},
		{math.MaxUint32, -1, 0}, {math.MaxUint32, 33, 0},
		{math.MaxUint32, math.MinInt, 0}, {math.MaxUint32, math.MaxInt, 0},
	} {
		if got := bitio.Reverse(x.v, x.n); got != x.want {
			t.Errorf("Reverse(%#x, %d) = %#x, want %#x", x.v, x.n, got, x.want)
		}
	}
}

// P1.1: a nil writer and a nil reader answer nothing, 0 and ErrArg.
func TestNil(t *testing.T) {
	var w *bitio.Writer
	w.Put(1, 1)
	w.Align()
	wantWritten(t, w, 0)
	var r *bitio.Reader
	r.Align()
	for _, n := range []int{-1, 0, 1, 32, 33} {
		wantBits(t, r, n, 0, api.ErrArg, 0)
		wantTaken(t, r, n, nil, api.ErrArg, 0)
	}
}

type part struct {
	v uint32
	n int
}

func lowest(p part) uint32 { return uint32(uint64(p.v) & (1<<p.n - 1)) }

// P1.2: what is written, in whatever parts, is read in the same parts, and bit by bit.
func TestWrittenIsRead(t *testing.T) {
	random := rand.New(rand.NewSource(1))
	for range 300 {
		w := bitio.NewWriter()
		parts := make([]part, random.Intn(60))
		bits := 0
		for i := range parts {
			parts[i] = part{random.Uint32(), random.Intn(33)}
			w.Put(parts[i].v, parts[i].n)
			bits += parts[i].n
			if w.Len() != bits || len(w.Bytes()) != (bits+7)/8 {
				t.Fatalf("%d bits in %d bytes, want %d bits", w.Len(), len(w.Bytes()), bits)
			}
		}
		left := (bits + 7) / 8 * 8
		whole, single := bitio.NewReader(w.Bytes()), bitio.NewReader(w.Bytes())
		for _, p := range parts {
			left -= p.n
			wantBits(t, whole, p.n, lowest(p), api.OK, left)
			for i := range p.n {
				wantBits(t, single, 1, p.v>>i&1, api.OK, left+p.n-1-i)
			}
		}
		wantBits(t, whole, left, 0, api.OK, 0)
	}
}

// P1.2: numbers that are aligned behind, and bytes among them, are read so.
func TestAlignedIsRead(t *testing.T) {
	for n := range 33 {
		w := bitio.NewWriter()
		w.Put(0xdeadbeef, n)
		w.Align()
		w.Put(0xa5, 8)
		w.Put(1, 1)
		r := bitio.NewReader(w.Bytes())
		wantBits(t, r, n, lowest(part{0xdeadbeef, n}), api.OK, (n+7)/8*8-n+16)
		wantTaken(t, r, 1, []byte{0xa5}, api.OK, 8)
		wantBits(t, r, 8, 1, api.OK, 0)
	}
}
