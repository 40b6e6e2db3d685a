package inflate_test

import (
	"bytes"
	"compress/flate"
	"io"
	"math"
	"math/rand"
	"slices"
	"strconv"
	"strings"
	"testing"

	"packsaddle/api"
	"packsaddle/bitio"
	"packsaddle/inflate"
	"packsaddle/prefix"
)

// Bits are texts of 0 and 1 here, the first bit first.

// num is a number of n bits, the lowest first.
func num(v, n int) string {
	out := ""
	for i := range n {
		out += strconv.Itoa(v >> i & 1)
	}
	return out
}

// bytesOf are bits as bytes, filled up with bits of 0.
func bytesOf(bits string) []byte {
	w := bitio.NewWriter()
	for _, x := range bits {
		w.Put(uint32(x-'0'), 1)
	}
	return w.Bytes()
}

// textOf are all bits of bytes.
func textOf(b []byte) string {
	out := strings.Builder{}
	for _, x := range b {
		out.WriteString(num(int(x), 8))
	}
	return out.String()
}

// coder has the words of two codes.
type coder struct{ signs, distances []string }

// wordsOf are the words of lengths, as bits.
func wordsOf(l []int) []string {
	words, e := prefix.Words(l)
	if e != api.OK {
		panic("lengths that aren't right")
	}
	out := make([]string, len(l))
	for sign, n := range l {
		for i := range n {
			out[sign] += strconv.Itoa(int(words[sign]) >> (n - 1 - i) & 1)
		}
	}
	return out
}

// fixed are the words of a fixed block.
func fixed() coder {
	signs := slices.Concat(slices.Repeat([]int{8}, 144), slices.Repeat([]int{9}, 112), slices.Repeat([]int{7}, 24), slices.Repeat([]int{8}, 8))
	return coder{wordsOf(signs), wordsOf(slices.Repeat([]int{5}, 32))}
}

// lone is one byte.
func (c coder) lone(b byte) string { return c.signs[b] }

func (c coder) text(s string) string {
	out := ""
	for i := range len(s) {
		out += c.lone(s[i])
	}
	return out
}

func (c coder) end() string { return c.signs[256] }

// copied is a copy by signs, with what is added to each.
func (c coder) copied(sign, more, distance, farther int) string {
	return c.signs[sign] + num(more, lengthBits(sign)) + c.distances[distance] + num(farther, distanceBits(distance))
}

const (
	fixedHead     = "010" // not the last block
	fixedLast     = "110"
	dynamicHead   = "001"
	dynamicLast   = "101"
	storedLast    = "100"
	storedHead    = "000"
	someBytesMore = 7
)

// The tables of lengths and distances as written by hand: a sign's least number, and how many bits are added.
func lengthRows() [][2]int {
	return [][2]int{
		{3, 0}, {4, 0}, {5, 0}, {6, 0}, {7, 0}, {8, 0}, {9, 0}, {10, 0},
		{11, 1}, {13, 1}, {15, 1}, {17, 1}, {19, 2}, {23, 2}, {27, 2}, {31, 2},
		{35, 3}, {43, 3}, {51, 3}, {59, 3}, {67, 4}, {83, 4}, {99, 4}, {115, 4},
		{131, 5}, {163, 5}, {195, 5}, {227, 5}, {258, 0},
	}
}

func distanceRows() [][2]int {
	return [][2]int{
		{1, 0}, {2, 0}, {3, 0}, {4, 0}, {5, 1}, {7, 1}, {9, 2}, {13, 2}, {17, 3}, {25, 3},
		{33, 4}, {49, 4}, {65, 5}, {97, 5}, {129, 6}, {193, 6}, {257, 7}, {385, 7}, {513, 8}, {769, 8},
		{1025, 9}, {1537, 9}, {2049, 10}, {3073, 10}, {4097, 11}, {6145, 11}, {8193, 12}, {12289, 12}, {16385, 13}, {24577, 13},
	}
}

func lengthBits(sign int) int    { return lengthRows()[sign-257][1] }
func distanceBits(sign int) int  { return distanceRows()[sign][1] }
func leastLength(sign int) int   { return lengthRows()[sign-257][0] }
func leastDistance(sign int) int { return distanceRows()[sign][0] }
func copyOf(n, d int, ahead []byte) []byte {
	out := slices.Clone(ahead)
	for range n {
		out = append(out, out[len(out)-d])
	}
	return out
}

// stored is a stored block's bytes, its head standing at the beginning of a byte.
func stored(b []byte, last bool) []byte {
	head := byte(0)
	if last {
		head = 1
	}
	n := len(b)
	return append([]byte{head, byte(n), byte(n >> 8), byte(^n), byte(^n >> 8)}, b...)
}

// dynamic is the head of a dynamic block behind its kind, with all lengths told one by one, by a code in which all signs but the three runs have 4 bits. It is an error of the test if there are too few signs.
func dynamic(signs, distances []int) string {
	out := num(len(signs)-257, 5) + num(len(distances)-1, 5) + num(15, 4)
	for _, sign := range inflate.Order() {
		if sign < 16 {
			out += num(4, 3)
		} else {
			out += num(0, 3)
		}
	}
	for _, n := range slices.Concat(signs, distances) {
		out += highest(n, 4)
	}
	return out
}

// highest is a number of n bits, the highest first, as words are.
func highest(v, n int) string {
	out := ""
	for i := range n {
		out += strconv.Itoa(v >> (n - 1 - i) & 1)
	}
	return out
}

// withEnd are lengths of so many signs: those that are named, and 256 of 1 bit.
func withEnd(count int, named map[int]int) []int {
	l := make([]int, count)
	l[256] = 1
	for sign, n := range named {
		l[sign] = n
	}
	return l
}

func wantOut(t *testing.T, what string, b []byte, most int, out []byte, read int) {
	t.Helper()
	kept := slices.Clone(b)
	got, gotRead, e := inflate.Inflate(b, most)
	if !bytes.Equal(got, out) || gotRead != read || e != api.OK {
		t.Errorf("%s: %d bytes, %v .., %d read, %d; want %d bytes, %v .., %d read", what, len(got), got[:min(len(got), 30)], gotRead, e, len(out), out[:min(len(out), 30)], read)
	}
	if !bytes.Equal(b, kept) {
		t.Errorf("%s: what was handed in was changed", what)
	}
}

// wantAll asks for what is inflated, with just as much room as is needed, with bytes behind, with a byte too few, and with too little room.
func wantAll(t *testing.T, what string, b, out []byte) {
	t.Helper()
	wantOut(t, what, b, api.MaxBytes, out, len(b))
	wantOut(t, what+", just room", b, len(out), out, len(b))
	for _, more := range []byte{0, 0xff, 0x55} {
		wantOut(t, what+", bytes behind", append(slices.Clone(b), slices.Repeat([]byte{more}, someBytesMore)...), len(out), out, len(b))
	}
	wantError(t, what+", a byte too few", b[:len(b)-1], len(out), api.ErrEnd)
	if len(out) > 0 {
		wantError(t, what+", too little room", b, len(out)-1, api.ErrLong)
	}
}

func wantError(t *testing.T, what string, b []byte, most int, e api.Errno) {
	t.Helper()
	got, read, gotE := inflate.Inflate(b, most)
	if len(got) != 0 || read != 0 || gotE != e {
		t.Errorf("%s: %d bytes, %d read, %d; want nothing, error %d", what, len(got), read, gotE, e)
	}
}

// shifted are bits behind fixed blocks that move them so that they end where a byte ends. What comes out ahead is at most 7 bytes.
func shifted(bits string) []byte {
	f := fixed()
	ahead := fixedHead
	for (len(ahead)+len(f.end())+len(bits))%8 != 0 {
		ahead += f.lone(200) // a word of 9 bits
	}
	return bytesOf(ahead + f.end() + bits)
}

// wantTold asks that an error is told at the last one of these bits, neither a bit earlier, nor later: wherever they are cut, bits end too early, and whatever stands behind them doesn't count.
func wantTold(t *testing.T, what, bits string, e api.Errno) {
	t.Helper()
	wantError(t, what, shifted(bits), api.MaxBytes, e)
	wantError(t, what+", bits of 0 behind", append(shifted(bits), 0, 0, 0, 0, 0, 0), api.MaxBytes, e)
	wantError(t, what+", bits of 1 behind", append(shifted(bits), 255, 255, 255, 255, 255, 255), api.MaxBytes, e)
	for n := max(0, len(bits)-40); n < len(bits); n++ {
		wantError(t, what+", cut at bit "+strconv.Itoa(n), shifted(bits[:n]), api.MaxBytes, api.ErrEnd)
	}
}

// P6.1: each sign's least length, and the signs that have none.
func TestLength(t *testing.T) {
	for i, x := range lengthRows() {
		if n, bits, ok := inflate.Length(257 + i); n != x[0] || bits != x[1] || !ok {
			t.Errorf("Length(%d) = %d, %d, %t; want %d, %d", 257+i, n, bits, ok, x[0], x[1])
		}
	}
	for _, sign := range []int{-1, 0, 1, 3, 29, 255, 256, 286, 287, 288, 1000, math.MinInt, math.MinInt + 257, math.MaxInt, math.MaxInt - 257} {
		if n, bits, ok := inflate.Length(sign); n != 0 || bits != 0 || ok {
			t.Errorf("Length(%d) = %d, %d, %t", sign, n, bits, ok)
		}
	}
}

// P6.1: each sign's least distance, and the signs that have none.
func TestDistance(t *testing.T) {
	for sign, x := range distanceRows() {
		if d, bits, ok := inflate.Distance(sign); d != x[0] || bits != x[1] || !ok {
			t.Errorf("Distance(%d) = %d, %d, %t; want %d, %d", sign, d, bits, ok, x[0], x[1])
		}
	}
	for _, sign := range []int{-1, -2, -30, 30, 31, 32, 257, 1000, math.MinInt, math.MaxInt} {
		if d, bits, ok := inflate.Distance(sign); d != 0 || bits != 0 || ok {
			t.Errorf("Distance(%d) = %d, %d, %t", sign, d, bits, ok)
		}
	}
}

// P6.1: the order of lengths of lengths.
func TestOrder(t *testing.T) {
	want := [19]int{16, 17, 18, 0, 8, 7, 9, 6, 10, 5, 11, 4, 12, 3, 13, 2, 14, 1, 15}
	got := inflate.Order()
	if got != want {
		t.Error(got)
	}
	got[0] = 7
	if inflate.Order() != want {
		t.Error("an answer that was changed is handed out", inflate.Order())
	}
}

// P6.1: what the chapter and every other reader of deflated bytes has as an example.
func TestExamples(t *testing.T) {
	wantOut(t, "nothing", []byte{3, 0}, 0, nil, 2)
	wantAll(t, "nothing", []byte{3, 0}, nil)
	wantAll(t, "a", []byte{0x4b, 4, 0}, []byte("a"))
	wantAll(t, "hi", []byte{1, 2, 0, 253, 255, 'h', 'i'}, []byte("hi"))
	wantAll(t, "hello", []byte{0xcb, 0x48, 0xcd, 0xc9, 0xc9, 7, 0}, []byte("hello"))
}

// P6.1: most is 0 to MaxBytes, and that is asked ahead of all bytes.
func TestMost(t *testing.T) {
	for _, most := range []int{-1, math.MinInt, api.MaxBytes + 1, math.MaxInt} {
		for _, b := range [][]byte{nil, {}, {3, 0}, {7}, {0}} {
			wantError(t, "most "+strconv.Itoa(most), b, most, api.ErrArg)
		}
	}
	for _, most := range []int{0, 1, api.MaxBytes} {
		wantOut(t, "most "+strconv.Itoa(most), []byte{3, 0}, most, nil, 2)
		wantError(t, "most "+strconv.Itoa(most), nil, most, api.ErrEnd)
		wantError(t, "most "+strconv.Itoa(most), []byte{}, most, api.ErrEnd)
	}
}

// P6.1: as much comes out as MaxBytes, and no more.
func TestMostBytes(t *testing.T) {
	f := fixed()
	w := bitio.NewWriter()
	put := func(bits string) {
		for _, x := range bits {
			w.Put(uint32(x-'0'), 1)
		}
	}
	put(fixedHead + f.lone('x'))
	left := api.MaxBytes - 1
	for again := f.copied(285, 0, 0, 0); left >= 258; left -= 258 {
		put(again)
	}
	put(f.end() + fixedHead)
	for range left {
		put(f.lone('x'))
	}
	put(f.end())
	ahead := *w
	put(fixedLast + f.end())
	all := slices.Repeat([]byte{'x'}, api.MaxBytes)
	wantOut(t, "MaxBytes", w.Bytes(), api.MaxBytes, all, (w.Len()+7)/8)
	wantError(t, "MaxBytes", w.Bytes(), api.MaxBytes-1, api.ErrLong)
	for _, bits := range []string{fixedLast + f.lone('x') + f.end(), fixedLast + f.copied(257, 0, 0, 0) + f.end()} {
		whole := textOf(ahead.Bytes())[:ahead.Len()] + bits
		wantError(t, "a byte or a copy beyond MaxBytes", bytesOf(whole), api.MaxBytes, api.ErrLong)
	}
}

// P6.1: stored blocks of no bytes, of some, and of as many as they can have.
func TestStored(t *testing.T) {
	random := rand.New(rand.NewSource(1))
	for _, n := range []int{0, 1, 2, 255, 256, 257, 65534, 65535} {
		b := make([]byte, n)
		random.Read(b)
		wantAll(t, "stored", stored(b, true), b)
		again := slices.Concat(stored(b, false), stored([]byte("ab"), false), stored(nil, false), stored(b, true))
		wantAll(t, "stored, four blocks", again, slices.Concat(b, []byte("ab"), b))
	}
}

// P6.1: a stored block begins at any bit; what fills the byte up is passed over, whatever it is.
func TestStoredAligned(t *testing.T) {
	f := fixed()
	for ones := range 9 {
		for _, fill := range []string{"0", "1"} {
			bits := fixedHead + strings.Repeat(f.lone(200), ones) + f.end() + storedLast
			bits += strings.Repeat(fill, (8-len(bits)%8)%8)
			b := append(bytesOf(bits), 2, 0, 253, 255, 'h', 'i')
			wantAll(t, "stored at a bit", b, append(slices.Repeat([]byte{200}, ones), 'h', 'i'))
		}
	}
	ahead := append(bytesOf(storedHead+"10101"), 1, 0, 254, 255, 'x')
	wantAll(t, "behind a stored block", append(ahead, bytesOf(fixedLast+f.lone('y')+f.copied(257, 0, 1, 0)+f.end())...), []byte("xyxyx"))
}

// P6.1: a stored block's two numbers are read, then held against each other, then against the room, then its bytes are read.
func TestStoredErrors(t *testing.T) {
	for n := range 5 {
		wantError(t, "stored, numbers cut", []byte{1, 5, 0, 5, 0}[:n], 0, api.ErrEnd)
	}
	for bit := range 16 {
		turned := 0xffff - 2 ^ 1<<bit
		b := []byte{1, 2, 0, byte(turned), byte(turned >> 8), 'h', 'i'}
		wantError(t, "stored, a bit of the second number is wrong", b, 10, api.ErrForm)
		wantError(t, "stored, the same, without its bytes", b[:5], 10, api.ErrForm)
		wantError(t, "stored, the same, without room", b[:5], 0, api.ErrForm)
	}
	wantError(t, "stored, twice the same number", []byte{1, 2, 0, 2, 0, 'h', 'i'}, 10, api.ErrForm)
	wantError(t, "stored, without room and bytes", []byte{1, 2, 0, 253, 255}, 1, api.ErrLong)
	wantError(t, "stored, without bytes", []byte{1, 2, 0, 253, 255}, 2, api.ErrEnd)
	wantError(t, "stored, with one of two bytes", []byte{1, 2, 0, 253, 255, 'h'}, 2, api.ErrEnd)
	two := append(stored([]byte("abc"), false), 1, 2, 0, 253, 255)
	wantError(t, "stored, room for the block ahead alone", two, 4, api.ErrLong)
	wantError(t, "stored, without bytes behind another one", two, 5, api.ErrEnd)
	wantError(t, "stored, no last one", stored([]byte("abc"), false), 3, api.ErrEnd)
}

// P6.1: a block's first three bits, and the kind 3.
func TestHead(t *testing.T) {
	for _, last := range []string{"0", "1"} {
		wantTold(t, "kind 3", last+"11", api.ErrForm)
	}
	wantError(t, "kind 3", []byte{7}, 0, api.ErrForm)
	wantError(t, "kind 3", []byte{6}, 0, api.ErrForm)
}

// P6.1: a fixed block's words are those that the chapter tells.
func TestFixedWords(t *testing.T) {
	f := fixed()
	all := []byte{}
	bits := fixedLast
	for b := range 256 {
		all = append(all, byte(b))
		bits += f.lone(byte(b))
	}
	wantAll(t, "all bytes", bytesOf(bits+f.end()), all)
	for _, x := range []struct {
		b    byte
		word string
	}{{0, "00110000"}, {143, "10111111"}, {144, "110010000"}, {255, "111111111"}} {
		wantAll(t, "a byte at a border", bytesOf(fixedLast+x.word+"0000000"), []byte{x.b})
	}
	wantAll(t, "sign 257, distance 0", bytesOf(fixedLast+f.lone('a')+"0000001"+"00000"+"0000000"), []byte("aaaa"))
	wantAll(t, "sign 285, distance 0", bytesOf(fixedLast+f.lone('a')+"11000101"+"00000"+"0000000"), slices.Repeat([]byte{'a'}, 259))
}

// P6.1: copies of each length, from one byte and from three bytes back, which they overlap.
func TestLengths(t *testing.T) {
	f := fixed()
	for i := range lengthRows() {
		sign := 257 + i
		for more := range 1 << lengthBits(sign) {
			bits := fixedLast + f.text("abc") + f.copied(sign, more, 0, 0) + f.copied(sign, more, 2, 0) + f.end()
			n := leastLength(sign) + more
			wantAll(t, "length "+strconv.Itoa(n), bytesOf(bits), copyOf(n, 3, copyOf(n, 1, []byte("abc"))))
		}
	}
}

// P6.1: copies from the least and the greatest distance of each sign, of the least and the greatest length; from the first byte on, and from one ahead of it.
func TestDistances(t *testing.T) {
	f := fixed()
	random := rand.New(rand.NewSource(2))
	for sign := range 30 {
		for _, more := range []int{0, 1<<distanceBits(sign) - 1} {
			d := leastDistance(sign) + more
			ahead := make([]byte, d)
			random.Read(ahead)
			for _, x := range []struct{ sign, length int }{{257, 3}, {285, 258}} {
				b := append(stored(ahead, false), bytesOf(fixedLast+f.copied(x.sign, 0, sign, more)+f.end())...)
				wantAll(t, "distance "+strconv.Itoa(d), b, copyOf(x.length, d, ahead))
				b = append(stored(ahead[1:], false), bytesOf(fixedLast+f.copied(x.sign, 0, sign, more)+f.end())...)
				wantError(t, "distance "+strconv.Itoa(d)+" from ahead of the first byte", b, api.MaxBytes, api.ErrBack)
			}
		}
	}
	most := distanceRows()[29][0] + 1<<13 - 1
	if most != api.MaxBack {
		t.Error("the greatest distance", most)
	}
	ahead := make([]byte, 65535)
	random.Read(ahead)
	b := append(stored(ahead, false), bytesOf(fixedLast+f.copied(285, 0, 29, 1<<13-1)+f.copied(284, 31, 29, 1<<13-1)+f.end())...)
	wantAll(t, "the greatest copies", b, slices.Concat(ahead, ahead[32767:32767+516]))
}

// P6.1: signs that have no length, and distances that have none, are told as soon as they are read.
func TestRange(t *testing.T) {
	f := fixed()
	for _, sign := range []int{286, 287} {
		wantTold(t, "sign "+strconv.Itoa(sign), fixedLast+f.signs[sign], api.ErrRange)
	}
	for _, sign := range []int{30, 31} {
		wantTold(t, "distance "+strconv.Itoa(sign), fixedLast+f.signs[257]+f.distances[sign], api.ErrRange)
		wantTold(t, "distance "+strconv.Itoa(sign), fixedLast+f.signs[284]+num(31, 5)+f.distances[sign], api.ErrRange)
		wantError(t, "distance ahead of no room", bytesOf(fixedLast+f.signs[257]+f.distances[sign]), 0, api.ErrRange)
	}
	wantError(t, "sign 286 ahead of no room", bytesOf(fixedLast+f.signs[286]), 0, api.ErrRange)
}

// P6.1: a copy from ahead of the first byte is told when all of it is read, and ahead of too little room.
func TestBack(t *testing.T) {
	f := fixed()
	for _, sign := range []int{3, 4, 5, 20, 29} {
		for _, length := range []int{257, 265, 284, 285} {
			bits := f.copied(length, 0, sign, 1<<distanceBits(sign)-1)
			if sign > 5 { // farther than what shifted puts ahead
				wantTold(t, "a copy from ahead", fixedLast+bits, api.ErrBack)
			}
			wantError(t, "a copy from ahead", bytesOf(fixedLast+bits), api.MaxBytes, api.ErrBack)
			for most := range 3 {
				wantError(t, "a copy from ahead, without room", bytesOf(fixedLast+f.text("ab")[:8*most]+bits), most, api.ErrBack)
			}
		}
	}
	wantError(t, "a copy from behind nothing", bytesOf(fixedLast+f.copied(257, 0, 0, 0)), api.MaxBytes, api.ErrBack)
	wantError(t, "a copy from behind nothing, in the second block", bytesOf(fixedHead+f.end()+fixedLast+f.copied(257, 0, 0, 0)), 0, api.ErrBack)
	wantAll(t, "a copy from another block", bytesOf(fixedHead+f.text("ab")+f.end()+fixedLast+f.copied(258, 0, 1, 0)+f.end()), []byte("ababab"))
}

// P6.1: too many bytes are told at the byte, or at the end of the copy, that is one too many, ahead of what stands behind.
func TestLong(t *testing.T) {
	f := fixed()
	byteTooMany := fixedLast + f.text("abc")
	wantError(t, "a byte too many", bytesOf(byteTooMany), 2, api.ErrLong)
	wantError(t, "a byte too many, no room at all", bytesOf(byteTooMany), 0, api.ErrLong)
	wantError(t, "no byte too many, but no end", bytesOf(byteTooMany), 3, api.ErrEnd)
	wantError(t, "a byte too many, cut", bytesOf(byteTooMany)[:3], 2, api.ErrEnd)
	again := fixedLast + f.text("abc") + f.copied(285, 0, 2, 0)
	for most := 3; most < 261; most++ {
		wantError(t, "a copy too long", bytesOf(again), most, api.ErrLong)
	}
	wantError(t, "no copy too long, but no end", bytesOf(again), 261, api.ErrEnd)
}

// lengthsHead is a dynamic block up to its lengths, which are written by a code that has of the signs 0, 1, 16, 17 and 18 the words 00, 01, 10, 110 and 111.
func lengthsHead(signs, distances int) string {
	out := dynamicLast + num(signs-257, 5) + num(distances-1, 5) + num(14, 4)
	of := map[int]int{0: 2, 1: 2, 16: 2, 17: 3, 18: 3}
	order := inflate.Order()
	for _, sign := range order[:18] {
		out += num(of[sign], 3)
	}
	return out
}

const (
	length0 = "00"
	length1 = "01"
)

func repeat(more int) string      { return "10" + num(more, 2) }
func noughts(more int) string     { return "110" + num(more, 3) }
func manyNoughts(more int) string { return "111" + num(more, 7) }

// upTo256 are the lengths of 256 signs that have no words.
func upTo256() string { return manyNoughts(127) + manyNoughts(118-11) }

// P6.1: runs of lengths, each of the three, with the least and the greatest number more, and those that stand behind one another.
func TestRuns(t *testing.T) {
	for _, x := range []struct {
		what    string
		signs   int
		lengths string
	}{
		{"no runs", 257, length1 + strings.Repeat(length0, 255) + length1},
		{"18 of the greatest and another number", 257, length1 + manyNoughts(127) + manyNoughts(117-11) + length1},
		{"18 of the least number", 257, length1 + strings.Repeat(manyNoughts(0), 23) + length0 + length0 + length1},
		{"17 of the least number", 257, length1 + strings.Repeat(noughts(0), 85) + length1},
		{"17 of the greatest number", 257, length1 + strings.Repeat(noughts(7), 25) + strings.Repeat(length0, 5) + length1},
		{"16 of the least number, behind 0", 257, length1 + strings.Repeat(length0+repeat(0), 63) + noughts(0) + length1},
		{"16 of the greatest number, behind 0", 257, length1 + length0 + strings.Repeat(repeat(3), 42) + strings.Repeat(length0, 2) + length1},
		{"16 behind 17", 257, length1 + noughts(2) + strings.Repeat(repeat(2), 50) + length1},
		{"16 behind 18", 257, length1 + manyNoughts(89) + strings.Repeat(repeat(2), 31) + length1},
		{"all runs", 257, length1 + manyNoughts(100) + noughts(5) + repeat(1) + strings.Repeat(noughts(7), 13) + strings.Repeat(length0, 2) + length1},
	} {
		head := lengthsHead(x.signs, 1) + x.lengths
		wantAll(t, x.what+", distance of no word", bytesOf(head+length0+"0001"), []byte{0, 0, 0})
		wantAll(t, x.what+", distance of one word", bytesOf(head+length1+"0001"), []byte{0, 0, 0})
	}
}

// P6.1: what each number more adds to a run, as many lengths as it tells.
func TestRunNumbers(t *testing.T) {
	of := func(what, run string, times int) {
		t.Helper()
		ahead := length1
		rest := 255 - times
		bits := lengthsHead(257, 1) + ahead + run + strings.Repeat(length0, rest) + length1 + length0 + "001"
		wantAll(t, what, bytesOf(bits), []byte{0, 0})
	}
	for more := range 4 {
		of("16", length0+repeat(more), 1+3+more)
	}
	for more := range 8 {
		of("17", noughts(more), 3+more)
	}
	for more := range 128 {
		of("18", manyNoughts(more), 11+more)
	}
}

// P6.1: a run repeats a length that isn't 0: the code of the signs 252 to 256 and its neighbours, of 3 bits.
func TestRepeatedLength(t *testing.T) {
	for more := range 4 {
		signs := make([]int, 257)
		for i := range 8 {
			signs[249+i] = 3
		}
		// The signs 0, 3, 16 and 18 have words of 2 bits: 00, 01, 10, 11.
		of := map[int]int{0: 2, 3: 2, 16: 2, 18: 2}
		head := dynamicLast + num(0, 5) + num(0, 5) + num(15, 4)
		for _, sign := range inflate.Order() {
			head += num(of[sign], 3)
		}
		head += "11" + num(127, 7) + "11" + num(249-138-11, 7)
		head += "01" + "10" + num(more, 2) + strings.Repeat("01", 4-more) + "00"
		words := wordsOf(signs)
		wantAll(t, "8 signs", bytesOf(head+words[249]+words[255]+words[252]+words[256]), []byte{249, 255, 252})
	}
}

// P6.1: a run goes on from the signs into the distances, and a repeated length may be a sign's.
func TestRunAcross(t *testing.T) {
	signs := manyNoughts(127) + manyNoughts(118 - 11)[:10]
	_ = signs
	ahead := lengthsHead(258, 2) + manyNoughts(127) + manyNoughts(107) + length1
	// 256 and 257, then two distances of 1 bit: one length, and three times it.
	bits := ahead + repeat(0) + "0"
	wantAll(t, "a repeated length of a sign", bytesOf(bits), nil)
	moved := append(stored([]byte("ab"), false), bytesOf(bits[:len(bits)-1]+"1"+"1"+"0")...)
	wantAll(t, "a copy by the two codes", moved, []byte("ababa"))
	// 257 to 285 and 30 distances, all 0 but 256.
	bits = lengthsHead(286, 30) + upTo256() + length1 + manyNoughts(59-11) + "0"
	wantAll(t, "noughts of signs and distances", bytesOf(bits), nil)
	bits = lengthsHead(286, 30) + upTo256() + length1 + strings.Repeat(noughts(7), 5) + noughts(6) + "0"
	wantAll(t, "noughts of signs and distances in short runs", bytesOf(bits), nil)
}

// P6.1: a run without a length ahead, told behind what it adds.
func TestRunWithoutAhead(t *testing.T) {
	for more := range 4 {
		wantTold(t, "16 first", lengthsHead(257, 1)+repeat(more), api.ErrForm)
		wantTold(t, "16 first, most signs", lengthsHead(286, 30)+repeat(more), api.ErrForm)
	}
}

// P6.1: a run beyond all signs and distances, told behind what it adds; one that just ends there is none.
func TestRunBeyond(t *testing.T) {
	for _, x := range []struct {
		what string
		bits string
	}{
		{"16, one beyond", length1 + length0 + repeat(1)},
		{"16, the greatest number", length1 + length0 + repeat(3)},
		{"16 behind all signs", length1 + strings.Repeat(length0, 2) + repeat(0)},
		{"17, one beyond", length1 + length0 + noughts(1)},
		{"17, the least number", length1 + length0 + length0 + noughts(0)},
		{"17, the greatest number", length1 + noughts(7)},
		{"18, the least number", length1 + manyNoughts(0)},
		{"18, the greatest number", length1 + manyNoughts(127)},
	} {
		wantTold(t, x.what, lengthsHead(257, 4)+upTo256()+x.bits, api.ErrForm)
	}
	for _, run := range []string{length0 + repeat(0), noughts(1), length0 + noughts(0), strings.Repeat(length0, 4)} {
		wantAll(t, "just at the end", bytesOf(lengthsHead(257, 4)+upTo256()+length1+run+"0"), nil)
	}
	wantTold(t, "18 of 286 signs and 30 distances", lengthsHead(286, 30)+length1+manyNoughts(127)+manyNoughts(127)+manyNoughts(40), api.ErrForm)
	wantTold(t, "a run beyond, with 256 without a word", lengthsHead(257, 1)+manyNoughts(127)+manyNoughts(110), api.ErrForm)
}

// P6.1: as many signs and distances as may be, and more; the three numbers are read ahead of that.
func TestMany(t *testing.T) {
	for n := range 32 {
		for d := range 32 {
			head := dynamicHead + num(n, 5) + num(d, 5)
			for _, ofLengths := range []int{0, 7, 15} {
				if n > 29 || d > 29 {
					wantTold(t, "many", head+num(ofLengths, 4), api.ErrMany)
				} else {
					wantError(t, "not many", shifted(head+num(ofLengths, 4)), api.MaxBytes, api.ErrEnd)
				}
			}
		}
	}
	for _, x := range [][2]int{{257, 1}, {257, 30}, {286, 1}, {286, 30}, {270, 13}} {
		l := withEnd(x[0], map[int]int{'a': 2, x[0] - 1: 2})
		if x[0] == 257 {
			l = withEnd(257, map[int]int{'a': 2, 'b': 2})
		}
		d := make([]int, x[1])
		d[x[1]-1] = 1
		words := wordsOf(l)
		wantAll(t, "signs and distances", bytesOf(dynamicLast+dynamic(l, d)+words['a']+words[256]), []byte("a"))
	}
}

// P6.1: each number of lengths of lengths; those that aren't told are 0.
func TestLengthsOfLengths(t *testing.T) {
	order := inflate.Order()
	for count := 4; count <= 19; count++ {
		// Two signs of lengths have words: 0, and the last one that is told, or 18.
		last := order[count-1]
		if count == 4 {
			last = 18
		}
		head := num(0, 5) + num(0, 5) + num(count-4, 4)
		for _, sign := range order[:count] {
			n := 0
			if sign == 0 || sign == last {
				n = 1
			}
			head += num(n, 3)
		}
		zero, other := "0", "1"
		if last < 16 { // the end has a word of so many bits, and so have 2^n signs
			l := make([]int, 257)
			bits := ""
			if last > 8 { // more signs than there are
				wantTold(t, "lengths that aren't right", dynamicLast+head+strings.Repeat(other, 258), api.ErrCode)
				continue
			}
			for i := range l {
				if i >= 257-1<<last {
					l[i] = last
				}
				bits += map[bool]string{true: other, false: zero}[l[i] > 0]
			}
			words := wordsOf(l)
			first := 257 - 1<<last
			b := byte(first)
			wantAll(t, "the last sign told is "+strconv.Itoa(last), bytesOf(dynamicLast+head+bits+zero+words[b]+words[256]), []byte{b})
			continue
		}
		wantTold(t, "no 256", dynamicLast+head+other+num(127, 7)+other+num(119-11, 7)+zero, api.ErrCode)
	}
}

// P6.1: lengths of lengths that aren't right are told behind the last one of them; a code without words, behind them too; bits that are no word's beginning, at the first such bit.
func TestLengthsOfLengthsCode(t *testing.T) {
	head := dynamicLast + num(0, 5) + num(0, 5)
	for _, x := range []struct {
		what string
		l    []int
		more string
	}{
		{"none", []int{0, 0, 0, 0}, ""},
		{"none of 19", make([]int, 19), ""},
		{"one of 2 bits", []int{0, 0, 0, 2}, ""},
		{"one of 7 bits", []int{7, 0, 0, 0, 0}, ""},
		{"too few", []int{1, 2, 0, 0}, ""},
		{"too many", []int{1, 1, 1, 0}, ""},
		{"too many of 19", slices.Repeat([]int{4}, 19), ""},
		{"alone, the other bit", []int{0, 0, 0, 1}, "1"},
		{"alone, the other bit later", []int{0, 0, 0, 1}, "00001"},
	} {
		bits := head + num(len(x.l)-4, 4)
		for _, n := range x.l {
			bits += num(n, 3)
		}
		wantTold(t, x.what, bits+x.more, api.ErrCode)
	}
	// A lone word: all lengths are 0, so that 256 has no word.
	wantTold(t, "alone, all noughts", head+num(0, 4)+num(0, 9)+num(1, 3)+strings.Repeat("0", 258), api.ErrCode)
}

// P6.1: lengths of signs or distances that aren't right, and signs without 256, are told behind the last length.
func TestWrongLengths(t *testing.T) {
	right := withEnd(257, map[int]int{'a': 2, 'b': 2})
	for _, x := range []struct {
		what             string
		signs, distances []int
	}{
		{"too few signs", withEnd(257, map[int]int{'a': 2}), []int{1}},
		{"too many signs", withEnd(257, map[int]int{'a': 2, 'b': 2, 'c': 15}), []int{1}},
		{"one sign of 2 bits", withEnd(257, map[int]int{256: 2}), []int{1}},
		{"no signs", make([]int, 257), []int{1}},
		{"no 256, whole", withEnd(257, map[int]int{256: 0, 'a': 1, 'b': 1}), []int{1}},
		{"no 256, one sign", withEnd(257, map[int]int{256: 0, 'a': 1}), []int{1}},
		{"no 256, but 257", withEnd(258, map[int]int{256: 0, 'a': 1, 257: 1}), []int{1}},
		{"one distance of 2 bits", right, []int{2}},
		{"too few distances", right, []int{1, 2}},
		{"too many distances", right, []int{1, 1, 1}},
		{"too many distances, of 15 bits", right, []int{1, 1, 15}},
		{"both", withEnd(257, map[int]int{'a': 2}), []int{2}},
	} {
		wantTold(t, x.what, dynamicLast+dynamic(x.signs, x.distances), api.ErrCode)
	}
}

// P6.1: a dynamic block of one sign, the end; with the bit that is no word.
func TestEndAlone(t *testing.T) {
	for _, distances := range [][]int{{0}, {1}, {1, 1}, {0, 0, 1}} {
		head := dynamicLast + dynamic(withEnd(257, nil), distances)
		wantAll(t, "the end alone", bytesOf(head+"0"), nil)
		wantTold(t, "no word", head+"1", api.ErrCode)
	}
}

// P6.1: a copy by distances of no word, one word, and the bits that are none; told at the first such bit, behind what is added to the length.
func TestDistanceCodes(t *testing.T) {
	signs := withEnd(274, map[int]int{'a': 2, 273: 2})
	words := wordsOf(signs)
	again := words['a'] + words[273] + num(5, 3)
	wantTold(t, "no words", dynamicLast+dynamic(signs, []int{0})+again, api.ErrCode)
	wantTold(t, "no words of 30", dynamicLast+dynamic(signs, make([]int, 30))+again, api.ErrCode)
	wantTold(t, "no such word", dynamicLast+dynamic(signs, []int{1})+again+"1", api.ErrCode)
	wantTold(t, "no such word, distance 29", dynamicLast+dynamic(signs, append(make([]int, 29), 1))+again+"1", api.ErrCode)
	out := slices.Repeat([]byte{'a'}, 1+40)
	wantAll(t, "one word", bytesOf(dynamicLast+dynamic(signs, []int{1})+again+"0"+words[256]), out)
	wantAll(t, "two words", bytesOf(dynamicLast+dynamic(signs, []int{1, 1})+again+"0"+words[256]), out)
	wantError(t, "two words, the farther one", bytesOf(dynamicLast+dynamic(signs, []int{1, 1})+again+"1"), api.MaxBytes, api.ErrBack)
	wantTold(t, "the farthest", dynamicLast+dynamic(signs, append(make([]int, 29), 1))+again+"0"+num(0, 13), api.ErrBack)
}

// P6.1: a code of words of all lengths up to MaxBits, for signs and distances.
func TestLongWords(t *testing.T) {
	signs := make([]int, 286)
	for n := range 15 {
		signs[n+'a'] = n + 1
	}
	signs['o'], signs[256], signs[257] = 0, 15, 15
	distances := make([]int, 30)
	for n := range 15 {
		distances[n] = n + 1
	}
	distances[15] = 15
	words := coder{wordsOf(signs), wordsOf(distances)}
	text := "abcdefghijklmn"
	out := []byte(strings.Repeat(text, 20))
	bits := dynamicLast + dynamic(signs, distances) + strings.Repeat(words.text(text), 20)
	for sign := range 16 {
		bits += words.copied(257, 0, sign, 0)
		out = copyOf(3, leastDistance(sign), out)
	}
	wantAll(t, "words of 1 to 15 bits", bytesOf(bits+words.end()), out)
}

// P6.1: blocks of all kinds, one behind another, each with codes of its own, up to the last one.
func TestBlocks(t *testing.T) {
	f := fixed()
	kinds := []func(head string, at int) string{
		func(head string, at int) string {
			bits := head + "00"
			bits += strings.Repeat("1", (8-(at+len(bits))%8)%8)
			return bits + num(2, 16) + num(0xfffd, 16) + textOf([]byte("st"))
		},
		func(head string, _ int) string { return head + "10" + f.text("fi") + f.copied(257, 0, 1, 0) + f.end() },
		func(head string, _ int) string {
			l := withEnd(257, map[int]int{'d': 2, 'y': 2})
			words := wordsOf(l)
			return head + "01" + dynamic(l, []int{0}) + words['d'] + words['y'] + words[256]
		},
		func(head string, _ int) string {
			l := withEnd(258, map[int]int{'z': 2, 257: 2})
			words := wordsOf(l)
			return head + "01" + dynamic(l, []int{0, 1}) + words['z'] + words['z'] + words[257] + "0" + words[256]
		},
	}
	outs := []string{"st", "fifif", "dy", "zzzzz"}
	for k := range 256 {
		bits, out := "", ""
		for place, kind := range []int{k & 3, k >> 2 & 3, k >> 4 & 3, k >> 6} {
			head := "0"
			if place == 3 {
				head = "1"
			}
			bits += kinds[kind](head, len(bits))
			out += outs[kind]
		}
		wantAll(t, "blocks "+strconv.Itoa(k), bytesOf(bits), []byte(out))
	}
}

// P6.1: no block is read behind the last one; with no last one, bits end too early.
func TestLast(t *testing.T) {
	f := fixed()
	empty, last := fixedHead+f.end(), fixedLast+f.end()
	for n := range 9 {
		bits := strings.Repeat(empty, n) + last
		wantAll(t, "empty blocks", bytesOf(bits), nil)
		read := (len(bits) + 7) / 8
		wantOut(t, "kind 3 behind", append(bytesOf(bits+"111"), 255, 255), 0, nil, read)
		wantError(t, "no last block", shifted(strings.Repeat(empty, n)), api.MaxBytes, api.ErrEnd)
	}
	many := bytes.Repeat([]byte{0, 0, 0, 255, 255}, 100000)
	wantOut(t, "many empty blocks", append(many, stored(nil, true)...), 0, nil, 500005)
	wantError(t, "many empty blocks, no last one", many, 0, api.ErrEnd)
}

// P6.1: what is answered is new memory.
func TestMemory(t *testing.T) {
	b := stored([]byte("memory"), true)
	out, _, _ := inflate.Inflate(b, 10)
	clear(b)
	if string(out) != "memory" {
		t.Error("what came out changed with what was handed in:", out)
	}
	b = stored([]byte("memory"), true)
	out, _, _ = inflate.Inflate(b, 10)
	clear(out)
	wantOut(t, "again", b, 10, []byte("memory"), len(b))
}

// samples are bytes of many shapes.
func samples() [][]byte {
	random := rand.New(rand.NewSource(3))
	out := [][]byte{nil, []byte("a"), []byte("abcabcabcabcabcabcabc"), make([]byte, 5000), bytes.Repeat([]byte("packsaddle "), 9000)}
	for range 30 {
		b := []byte{}
		for size := random.Intn(1 << random.Intn(17)); len(b) < size; {
			if n := random.Intn(300); len(b) > 0 && random.Intn(2) == 0 {
				b = copyOf(n, 1+random.Intn(min(len(b), 40000)), b)
			} else {
				for range n {
					b = append(b, byte(random.NormFloat64()*float64(1+random.Intn(40))))
				}
			}
		}
		out = append(out, b)
	}
	return out
}

// deflated is by the library, at a level, in parts that are flushed.
func deflated(b []byte, level int, parts int) []byte {
	out := bytes.Buffer{}
	w, err := flate.NewWriter(&out, level)
	if err != nil {
		panic(err)
	}
	for i := range parts {
		w.Write(b[len(b)*i/parts : len(b)*(i+1)/parts])
		if i < parts-1 {
			w.Flush()
		}
	}
	w.Close()
	return out.Bytes()
}

// P6.1: what another program has deflated, at all of its levels.
func TestOthersAreInflated(t *testing.T) {
	for _, b := range samples() {
		for level := -2; level <= 9; level++ {
			for _, parts := range []int{1, 3} {
				wantAll(t, "level "+strconv.Itoa(level), deflated(b, level, parts), b)
			}
		}
	}
}

// byOther is what the library makes of deflated bytes: what comes out, how many were read, and whether all was right.
func byOther(b []byte) ([]byte, int, bool) {
	in := bytes.NewReader(b)
	out, err := io.ReadAll(flate.NewReader(in))
	if err != nil {
		return nil, 0, false
	}
	return out, len(b) - in.Len(), true
}

func wantLikeOther(t *testing.T, b []byte) {
	t.Helper()
	out, read, ok := byOther(b)
	if len(out) > api.MaxBytes {
		return
	}
	got, gotRead, e := inflate.Inflate(b, api.MaxBytes)
	if !bytes.Equal(got, out) || gotRead != read || (e == api.OK) != ok {
		t.Errorf("of %v: %d bytes, %d read, %d; another program: %d bytes, %d read, %t", b, len(got), gotRead, e, len(out), read, ok)
	}
}

// P6.1: just those bytes are inflated that another program inflates, to the same; of wrong ones it knows no errors by number.
func TestWrongLikeOther(t *testing.T) {
	random := rand.New(rand.NewSource(4))
	for range 20000 {
		b := make([]byte, random.Intn(30))
		random.Read(b)
		wantLikeOther(t, b)
	}
	good := [][]byte{}
	for _, b := range samples() {
		for _, level := range []int{-2, 1, 9} {
			if d := deflated(b[:min(len(b), 600)], level, 1+random.Intn(2)); len(d) < 500 {
				good = append(good, d)
			}
		}
	}
	for range 20000 {
		b := slices.Clone(good[random.Intn(len(good))])
		for range 1 + random.Intn(3) {
			at := random.Intn(min(len(b), 1+random.Intn(len(b))))
			b[at] ^= 1 << random.Intn(8)
		}
		wantLikeOther(t, b)
	}
	for a := range 256 {
		for b := range 256 {
			wantLikeOther(t, []byte{byte(a), byte(b)})
			wantLikeOther(t, []byte{byte(a), byte(b), 0, 0, 0, 0})
		}
	}
}
