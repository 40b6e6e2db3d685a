package crc_test

import (
	"bytes"
	"hash/crc32"
	"math"
	"math/rand"
	"testing"

	"packsaddle/api"
	"packsaddle/crc"
)

// powers are those of the chapter's polynomial.
var powers = []int{32, 26, 23, 22, 16, 12, 11, 10, 8, 7, 5, 4, 2, 1, 0}

// someSums are those at which a sum's bits are at their edges, and others.
var someSums = []uint32{0, 1, 1 << 31, math.MaxUint32, math.MaxUint32 - 1, 0x7fffffff, 0xedb88320, 0x04c11db7, 0x12345678, 3421780262}

// bit is the bit at a place of bytes, of each byte the lowest first.
func bit(b []byte, place int) byte { return b[place/8] >> (place % 8) & 1 }

// remainder is the sum as the chapter tells it: a division of polynomials, a bit at a time.
func remainder(b []byte) uint32 {
	row := make([]byte, 8*len(b)+32)
	for i := range 8 * len(b) {
		row[i] = bit(b, i)
	}
	for i := range 32 {
		row[i] ^= 1
	}
	for i := range 8 * len(b) {
		if row[i] == 0 {
			continue
		}
		for _, p := range powers {
			row[i+32-p] ^= 1
		}
	}
	sum := uint32(0)
	for i, x := range row[8*len(b):] {
		sum |= uint32(x^1) << i
	}
	return sum
}

// fourWith are the four bytes that have a sum: the division's steps, taken back.
func fourWith(t *testing.T, sum uint32) []byte {
	t.Helper()
	register := ^sum
	for range 32 {
		if register>>31 == 1 {
			register = (register^0xedb88320)<<1 | 1
		} else {
			register <<= 1
		}
	}
	b := []byte{0, 0, 0, 0}
	for i := range b {
		b[i] = byte(^register >> (8 * i))
	}
	if remainder(b) != sum {
		t.Fatalf("the sum of %v is %#x, want %#x", b, remainder(b), sum)
	}
	return b
}

// someBytes are of all lengths up to 40, and some longer ones: zeros, ones, and bytes of no order.
func someBytes() [][]byte {
	random := rand.New(rand.NewSource(1))
	out := [][]byte{nil, {}, []byte("123456789"), []byte("ab")}
	for _, n := range []int{100, 255, 256, 257, 1000} {
		b := make([]byte, n)
		random.Read(b)
		out = append(out, b)
	}
	for n := range 41 {
		b := make([]byte, n)
		random.Read(b)
		out = append(out, b, make([]byte, n), bytes.Repeat([]byte{255}, n))
	}
	return out
}

func wantSum(t *testing.T, got, want uint32) {
	t.Helper()
	if got != want {
		t.Errorf("sum %#x, want %#x", got, want)
	}
}

func wantBytes(t *testing.T, got, want []byte) {
	t.Helper()
	if !bytes.Equal(got, want) {
		t.Errorf("bytes %v, want %v", got, want)
	}
}

func wantOpened(t *testing.T, b, want []byte, e api.Errno) {
	t.Helper()
	got, gotE := crc.Open(b)
	if !bytes.Equal(got, want) || gotE != e {
		t.Errorf("Open(%v) = %v, %d; want %v, %d", b, got, gotE, want, e)
	}
}

// P3.1: the sum is the remainder, of none too.
func TestSum(t *testing.T) {
	wantSum(t, crc.Sum([]byte("123456789")), 3421780262)
	wantSum(t, crc.Sum(nil), 0)
	wantSum(t, crc.Sum([]byte{}), 0)
	for _, b := range someBytes() {
		kept := bytes.Clone(b)
		wantSum(t, crc.Sum(b), remainder(b))
		wantBytes(t, b, kept)
	}
	for x := range 256 {
		wantSum(t, crc.Sum([]byte{byte(x)}), remainder([]byte{byte(x)}))
		wantSum(t, crc.Sum([]byte{byte(x), 1, 2, 3, 4}), remainder([]byte{byte(x), 1, 2, 3, 4}))
	}
}

// P3.1: the sum of many bytes, held against another making of it.
func TestSumOfMany(t *testing.T) {
	b := make([]byte, 1<<20+3)
	rand.New(rand.NewSource(2)).Read(b)
	wantSum(t, crc.Sum(b), crc32.ChecksumIEEE(b))
}

// P3.1: of each byte the table has what it makes of a register of 0, and each call makes its own.
func TestTable(t *testing.T) {
	table := crc.Table()
	for x := range table {
		// A register of 0 is that of the sum with all bits.
		wantSum(t, table[x], ^crc.Add(nil, math.MaxUint32, []byte{byte(x)}))
		wantSum(t, table[x], ^remainder(append(fourWith(t, math.MaxUint32), byte(x))))
	}
	table[1] = 5
	if crc.Table()[1] == 5 {
		t.Error("a table that was changed is handed out anew")
	}
}

// P3.1: bytes in whatever parts have the sum of the whole, with a table, with a nil one, and with both by turns.
func TestAddParts(t *testing.T) {
	table := crc.Table()
	random := rand.New(rand.NewSource(3))
	for _, b := range someBytes() {
		for cut := range min(len(b), 60) + 1 {
			wantSum(t, crc.Add(&table, crc.Sum(b[:cut]), b[cut:]), remainder(b))
			wantSum(t, crc.Add(nil, crc.Sum(b[:cut]), b[cut:]), remainder(b))
		}
		sum, from := uint32(0), 0
		for from < len(b) {
			till := min(from+random.Intn(9), len(b))
			if random.Intn(2) == 0 {
				sum = crc.Add(&table, sum, b[from:till])
			} else {
				sum = crc.Add(nil, sum, b[from:till])
			}
			from = till
		}
		wantSum(t, sum, remainder(b))
	}
	if table != crc.Table() {
		t.Error("Add changed its table")
	}
}

// P3.1: Add goes on from any sum, as if the bytes that have it stood ahead; with none behind them it stays.
func TestAddFromSums(t *testing.T) {
	table := crc.Table()
	sums := append([]uint32{}, someSums...)
	random := rand.New(rand.NewSource(4))
	for range 50 {
		sums = append(sums, random.Uint32())
	}
	for _, sum := range sums {
		ahead := fourWith(t, sum)
		wantSum(t, crc.Sum(ahead), sum)
		wantSum(t, crc.Add(&table, sum, nil), sum)
		wantSum(t, crc.Add(nil, sum, []byte{}), sum)
		for _, b := range someBytes()[:12] {
			kept := bytes.Clone(b)
			want := remainder(append(bytes.Clone(ahead), b...))
			wantSum(t, crc.Add(&table, sum, b), want)
			wantSum(t, crc.Add(nil, sum, b), want)
			wantBytes(t, b, kept)
		}
	}
}

// P3.1: a table of whatever numbers lets Add end, and stays as it was.
func TestAddOtherTable(t *testing.T) {
	table := [256]uint32{}
	for x := range table {
		table[x] = math.MaxUint32 - uint32(x)
	}
	kept := table
	for _, b := range someBytes() {
		crc.Add(&table, 7, b)
	}
	wantSum(t, crc.Add(&table, 7, nil), 7)
	if table != kept {
		t.Error("Add changed its table")
	}
}

// P3.1: the sum stands behind sealed bytes, its lowest byte first.
func TestSeal(t *testing.T) {
	wantBytes(t, crc.Seal([]byte("123456789")), []byte("123456789\x26\x39\xf4\xcb"))
	wantBytes(t, crc.Seal(nil), []byte{0, 0, 0, 0})
	wantBytes(t, crc.Seal([]byte{}), []byte{0, 0, 0, 0})
	for _, b := range someBytes() {
		sum := remainder(b)
		want := append(bytes.Clone(b), byte(sum), byte(sum>>8), byte(sum>>16), byte(sum>>24))
		wantBytes(t, crc.Seal(b), want)
	}
}

// P3.1: what is sealed is opened, also what was sealed twice.
func TestOpenSealed(t *testing.T) {
	for _, b := range someBytes() {
		sealed := crc.Seal(b)
		wantOpened(t, sealed, b, api.OK)
		wantOpened(t, crc.Seal(sealed), sealed, api.OK)
	}
	wantOpened(t, []byte{0, 0, 0, 0}, nil, api.OK)
}

// P3.1: fewer than 4 bytes are ErrEnd, whatever they are.
func TestOpenTooFew(t *testing.T) {
	for n := range 4 {
		wantOpened(t, make([]byte, n), nil, api.ErrEnd)
		wantOpened(t, bytes.Repeat([]byte{255}, n), nil, api.ErrEnd)
		wantOpened(t, crc.Seal([]byte("ab"))[:n], nil, api.ErrEnd)
	}
	wantOpened(t, nil, nil, api.ErrEnd)
}

// P3.1: another sum than that of the bytes ahead is ErrCheck: of one bit, of another order, of bytes that are gone or were put in.
func TestOpenWrongSum(t *testing.T) {
	wantOpened(t, []byte{1, 0, 0, 0}, nil, api.ErrCheck)
	wantOpened(t, []byte{0, 0, 0, 1}, nil, api.ErrCheck)
	wantOpened(t, []byte{255, 255, 255, 255}, nil, api.ErrCheck)
	wantOpened(t, []byte("123456789\xcb\xf4\x39\x26"), nil, api.ErrCheck)
	wantOpened(t, []byte("123456789\xd9\xc6\x0b\x34"), nil, api.ErrCheck)
	sealed := crc.Seal([]byte("123456789"))
	for i := range sealed {
		wrong := bytes.Clone(sealed)
		wrong[i]++
		wantOpened(t, wrong, nil, api.ErrCheck)
	}
	wantOpened(t, sealed[1:], nil, api.ErrCheck)
	wantOpened(t, sealed[:len(sealed)-1], nil, api.ErrCheck)
	wantOpened(t, append(bytes.Clone(sealed), 0), nil, api.ErrCheck)
}

// P3.1: Seal and Open answer new memory, and change nothing that was handed in, also where there is room behind it.
func TestSealOpenMemory(t *testing.T) {
	room := []byte{1, 2, 3, 9, 9, 9, 9, 9}
	b := room[:3]
	first, second := crc.Seal(b), crc.Seal(b)
	first[0] = 5
	wantBytes(t, room, []byte{1, 2, 3, 9, 9, 9, 9, 9})
	wantOpened(t, second, []byte{1, 2, 3}, api.OK)
	opened, _ := crc.Open(second)
	opened = append(opened, 7)
	opened[0] = 8
	wantOpened(t, second, []byte{1, 2, 3}, api.OK)
}

// bursted is b with a burst, as the chapter tells it: of each of its bits whether it is turned over.
func bursted(b []byte, at int, pattern uint32) []byte {
	out := bytes.Clone(b)
	for place := range 8 * len(b) {
		if i := place - at; i >= 0 && i < 32 && pattern>>i&1 == 1 {
			out[place/8] ^= 1 << (place % 8)
		}
	}
	return out
}

var somePatterns = []uint32{0, 1, 2, 5, 1 << 31, 1<<31 | 1, 0x80, 0x100, 0xff00ff00, math.MaxUint32, 0x12345678}

// P3.1: Burst at single places: ahead of the first bit, within a byte, over bytes' borders, at the end and beyond it.
func TestBurst(t *testing.T) {
	b := []byte{0, 0, 0xff}
	wantBytes(t, crc.Burst(b, 0, 1), []byte{1, 0, 0xff})
	wantBytes(t, crc.Burst(b, 3, 5), []byte{0x28, 0, 0xff})
	wantBytes(t, crc.Burst(b, 7, 3), []byte{0x80, 1, 0xff})
	wantBytes(t, crc.Burst(b, 0, 0x030201), []byte{1, 2, 0xfc})
	wantBytes(t, crc.Burst(b, 4, math.MaxUint32), []byte{0xf0, 0xff, 0})
	wantBytes(t, crc.Burst(b, -1, 3), []byte{1, 0, 0xff})
	wantBytes(t, crc.Burst(b, -31, math.MaxUint32), []byte{1, 0, 0xff})
	wantBytes(t, crc.Burst(b, -32, math.MaxUint32), b)
	wantBytes(t, crc.Burst(b, 23, 3), []byte{0, 0, 0x7f})
	wantBytes(t, crc.Burst(b, 24, math.MaxUint32), b)
	wantBytes(t, crc.Burst(b, 3, 0), b)
	wantBytes(t, crc.Burst(nil, 0, math.MaxUint32), nil)
}

// P3.1: Burst at all places about short rows, and at the ends of what an int can be.
func TestBurstEverywhere(t *testing.T) {
	random := rand.New(rand.NewSource(5))
	far := []int{math.MinInt, math.MinInt + 1, math.MinInt + 31, math.MinInt + 32, math.MaxInt, math.MaxInt - 1, math.MaxInt - 31, math.MaxInt - 32, 1 << 32, -1 << 32, math.MaxInt32, math.MinInt32}
	for n := range 10 {
		b := make([]byte, n)
		random.Read(b)
		kept := bytes.Clone(b)
		places := append([]int{}, far...)
		for at := -40; at <= 8*n+40; at++ {
			places = append(places, at)
		}
		for _, at := range places {
			for _, pattern := range append([]uint32{random.Uint32()}, somePatterns...) {
				wantBytes(t, crc.Burst(b, at, pattern), bursted(b, at, pattern))
				wantBytes(t, crc.Burst(crc.Burst(b, at, pattern), at, pattern), b)
			}
		}
		wantBytes(t, b, kept)
	}
}

// P3.1: each burst is new memory, also where nothing is turned over.
func TestBurstMemory(t *testing.T) {
	room := []byte{1, 2, 3, 9, 9}
	b := room[:3]
	for _, at := range []int{-100, -1, 0, 5, 23, 24, 100} {
		for _, pattern := range []uint32{0, 3} {
			first, second := crc.Burst(b, at, pattern), crc.Burst(b, at, pattern)
			first[0], first[1], first[2] = 7, 7, 7
			first = append(first, 7)
			wantBytes(t, room, []byte{1, 2, 3, 9, 9})
			wantBytes(t, second, bursted(b, at, pattern))
			if len(first) != 4 {
				t.Error("a burst of another length:", first)
			}
		}
	}
}

// wantRefused asks that sealed bytes with a burst aren't opened, and that they are, where no bit of it lies within.
func wantRefused(t *testing.T, b, sealed []byte, at int, pattern uint32) {
	t.Helper()
	burst := crc.Burst(sealed, at, pattern)
	if bytes.Equal(bursted(sealed, at, pattern), sealed) {
		wantOpened(t, burst, b, api.OK)
	} else {
		wantOpened(t, burst, nil, api.ErrCheck)
	}
}

// P3.2: sealed bytes with a burst aren't opened, wherever it is: among the bytes, over their end, in the sum, partly outside.
func TestBurstIsRefused(t *testing.T) {
	random := rand.New(rand.NewSource(6))
	for n := range 12 {
		b := make([]byte, n)
		random.Read(b)
		sealed := crc.Seal(b)
		for at := -33; at <= 8*len(sealed)+1; at++ {
			for _, pattern := range somePatterns {
				wantRefused(t, b, sealed, at, pattern)
			}
			for i := range 32 {
				wantRefused(t, b, sealed, at, 1|1<<i)
				wantRefused(t, b, sealed, at, random.Uint32())
			}
		}
	}
}

// P3.2: the bits of the polynomial itself would be missed, but they are 33: without the first or the last of them they are a burst, and refused.
func TestBurstNearPolynomial(t *testing.T) {
	for _, b := range [][]byte{nil, []byte("a"), []byte("123456789")} {
		sealed := crc.Seal(b)
		for at := -33; at <= 8*len(sealed)+1; at++ {
			wantRefused(t, b, sealed, at, 0xedb88320)
			wantRefused(t, b, sealed, at, 0xdb710641)
			wantRefused(t, b, sealed, at, 0x04c11db7)
			wantRefused(t, b, sealed, at, 0x82608edb)
		}
	}
}
