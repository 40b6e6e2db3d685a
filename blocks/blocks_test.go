package blocks_test

import (
	"bytes"
	"compress/flate"
	"fmt"
	"io"
	"math"
	"math/rand"
	"slices"
	"strings"
	"testing"

	"packsaddle/api"
	"packsaddle/bitio"
	"packsaddle/blocks"
	"packsaddle/inflate"
	"packsaddle/match"
)

// lone is a byte's token.
func lone(b byte) api.Token { return api.Token{Lit: b} }

// again is a copy's token.
func again(n, back int) api.Token { return api.Token{Len: n, Dist: back} }

// lones are the tokens of bytes, one by one.
func lones(b []byte) []api.Token {
	out := []api.Token{}
	for _, x := range b {
		out = append(out, lone(x))
	}
	return out
}

// told has what tokens stand for behind bytes that are there.
func told(ahead []byte, l []api.Token) []byte {
	out := slices.Clone(ahead)
	for _, t := range l {
		if t.Len == 0 {
			out = append(out, t.Lit)
		}
		for range t.Len {
			out = append(out, out[len(out)-t.Dist])
		}
	}
	return out
}

// The tables of lengths and distances as written by hand: a sign's least number, and how many bits are added.
func lengthRows() [][2]int {
	return [][2]int{
		{3, 0}, {4, 0}, {5, 0}, {6, 0}, {7, 0}, {8, 0}, {9, 0}, {10, 0},
		{11, 1}, {13, 1}, {15, 1}, {17, 1}, {19, 2}, {23, 2}, {27, 2}, {31, 2},
		{35, 3}, {43, 3}, {51, 3}, {59, 3}, {67, 4}, {83, 4}, {99, 4}, {115, 4},
		{131, 5}, {163, 5}, {195, 5}, {227, 5}, {258, 0},
	}
}

func distanceRows() [][2]int {
	return [][2]int{
		{1, 0}, {2, 0}, {3, 0}, {4, 0}, {5, 1}, {7, 1}, {9, 2}, {13, 2}, {17, 3}, {25, 3},
		{33, 4}, {49, 4}, {65, 5}, {97, 5}, {129, 6}, {193, 6}, {257, 7}, {385, 7}, {513, 8}, {769, 8},
		{1025, 9}, {1537, 9}, {2049, 10}, {3073, 10}, {4097, 11}, {6145, 11}, {8193, 12}, {12289, 12}, {16385, 13}, {24577, 13},
	}
}

// lastRow is the last row whose least number isn't above n.
func lastRow(rows [][2]int, n int) int {
	out := 0
	for i, row := range rows {
		if row[0] <= n {
			out = i
		}
	}
	return out
}

// textOf are a writer's bits as text, the first bit first.
func textOf(w *bitio.Writer) string {
	r, out := bitio.NewReader(w.Bytes()), strings.Builder{}
	for range w.Len() {
		v, _ := r.Get(1)
		out.WriteByte('0' + byte(v))
	}
	return out.String()
}

// lowest is a number of n bits, the lowest first.
func lowest(v, n int) string {
	out := ""
	for i := range n {
		out += fmt.Sprint(v >> i & 1)
	}
	return out
}

// highest is a number of n bits, the highest first.
func highest(v, n int) string {
	out := ""
	for i := range n {
		out = fmt.Sprint(v>>i&1) + out
	}
	return out
}

// fixedWord is a sign's word in a fixed block, by hand.
func fixedWord(sign int) string {
	switch {
	case sign <= 143:
		return highest(0b00110000+sign, 8)
	case sign <= 255:
		return highest(0b110010000+sign-144, 9)
	case sign <= 279:
		return highest(sign-256, 7)
	}
	return highest(0b11000000+sign-280, 8)
}

// fixedText is a fixed block's bits, by hand.
func fixedText(l []api.Token, last bool) string {
	out := strings.Builder{}
	out.WriteString(lastBit(last) + "10")
	for _, t := range l {
		if t.Len == 0 {
			out.WriteString(fixedWord(int(t.Lit)))
			continue
		}
		n, d := lastRow(lengthRows(), t.Len), lastRow(distanceRows(), t.Dist)
		out.WriteString(fixedWord(257+n) + lowest(t.Len-lengthRows()[n][0], lengthRows()[n][1]))
		out.WriteString(highest(d, 5) + lowest(t.Dist-distanceRows()[d][0], distanceRows()[d][1]))
	}
	return out.String() + "0000000"
}

// storedText is a stored block's bits, behind so many, by hand.
func storedText(ahead int, b []byte, last bool) string {
	out := lastBit(last) + "00"
	for (ahead+len(out))%8 > 0 {
		out += "0"
	}
	text := strings.Builder{}
	text.WriteString(out + lowest(len(b), 16) + lowest(len(b)^0xffff, 16))
	for _, x := range b {
		text.WriteString(lowest(int(x), 8))
	}
	return text.String()
}

func lastBit(last bool) string {
	if last {
		return "1"
	}
	return "0"
}

// writerAt has so many bits, of any kind.
func writerAt(bits int) *bitio.Writer {
	w := bitio.NewWriter()
	for i := range bits {
		w.Put(uint32(i*i/3), 1)
	}
	return w
}

// P9.1: every length, and just beyond.
func TestLengthSign(t *testing.T) {
	for n := 3; n <= 258; n++ {
		row := lastRow(lengthRows(), n)
		sign, more, ok := blocks.LengthSign(n)
		if sign != 257+row || more != n-lengthRows()[row][0] || !ok {
			t.Error(n, sign, more, ok)
		}
		if least, bits, ok := inflate.Length(sign); least+more != n || more >= 1<<bits || !ok {
			t.Error("not told back:", n, sign, more)
		}
	}
	for _, n := range []int{math.MinInt, math.MinInt32, -258, -3, -1, 0, 1, 2, 259, 260, 285, 512, 1<<16 + 3, 1<<32 + 3, math.MaxInt} {
		if sign, more, ok := blocks.LengthSign(n); sign != 0 || more != 0 || ok {
			t.Error(n, sign, more, ok)
		}
	}
}

// P9.1: the chapter's example, and about the last two signs.
func TestLengthSignExamples(t *testing.T) {
	for _, x := range [][3]int{{13, 266, 0}, {14, 266, 1}, {3, 257, 0}, {10, 264, 0}, {11, 265, 0}, {226, 283, 31}, {227, 284, 0}, {257, 284, 30}, {258, 285, 0}} {
		if sign, more, ok := blocks.LengthSign(x[0]); sign != x[1] || more != x[2] || !ok {
			t.Error(x, sign, more, ok)
		}
	}
}

// P9.1: every distance, and just beyond.
func TestDistanceSign(t *testing.T) {
	for d := 1; d <= 32768; d++ {
		row := lastRow(distanceRows(), d)
		sign, more, ok := blocks.DistanceSign(d)
		if sign != row || more != d-distanceRows()[row][0] || !ok {
			t.Error(d, sign, more, ok)
		}
		if least, bits, ok := inflate.Distance(sign); least+more != d || more >= 1<<bits || !ok {
			t.Error("not told back:", d, sign, more)
		}
	}
	for _, d := range []int{math.MinInt, math.MinInt32, -32768, -1, 0, 32769, 32770, 65536, 65537, 1<<32 + 1, math.MaxInt} {
		if sign, more, ok := blocks.DistanceSign(d); sign != 0 || more != 0 || ok {
			t.Error(d, sign, more, ok)
		}
	}
}

// allSigns are tokens of every byte, length and distance's sign, with all that may be added to a length's.
func allSigns() []api.Token {
	l := []api.Token{}
	for x := range 256 {
		l = append(l, lone(byte(x)))
	}
	for n := 3; n <= 258; n++ {
		l = append(l, again(n, n))
	}
	for i, row := range distanceRows() {
		l = append(l, again(3+i, row[0]), again(258-i, row[0]+1<<row[1]-1))
	}
	return l
}

// someTokens are bytes and copies, of few or many kinds; the copies are of what is there, if any is.
func someTokens(random *rand.Rand, count int, there int) []api.Token {
	letters, copies, farthest := 1+random.Intn(1<<random.Intn(9)), random.Intn(3), 1+random.Intn(1<<random.Intn(16))
	l := []api.Token{}
	for range count {
		if there > 0 && random.Intn(3) < copies {
			n := 3 + random.Intn(1+random.Intn(256))
			l = append(l, again(n, 1+random.Intn(min(there, farthest))))
			there += n
			continue
		}
		l = append(l, lone(byte(255-random.Intn(letters))))
		there++
	}
	return l
}

// shape is tokens, with a name.
type shape struct {
	name string
	l    []api.Token
}

// shapes stand behind at least 32768 bytes.
func shapes() []shape {
	random := rand.New(rand.NewSource(3))
	every := make([]byte, 256)
	for i := range every {
		every[i] = byte(i)
	}
	noise := make([]byte, 4000)
	random.Read(noise)
	out := []shape{
		{"none", nil},
		{"an empty row", []api.Token{}},
		{"a byte", lones([]byte("a"))},
		{"the byte 0", []api.Token{{}}},
		{"the byte 255", lones([]byte{255})},
		{"a byte many times", lones(bytes.Repeat([]byte("b"), 3000))},
		{"two bytes", lones([]byte("ab"))},
		{"all bytes", lones(every)},
		{"noise", lones(noise)},
		{"a text", lones([]byte(strings.Repeat("the quick brown fox jumps over the lazy dog. ", 20)))},
		{"the same text by copies", match.Tokens([]byte(strings.Repeat("the quick brown fox jumps over the lazy dog. ", 20)))},
		{"one copy", []api.Token{again(3, 1)}},
		{"the longest copy from the farthest", []api.Token{again(258, 32768)}},
		{"one copy many times", slices.Repeat([]api.Token{again(17, 900)}, 300)},
		{"all signs", allSigns()},
		{"all signs, many times", slices.Repeat(allSigns(), 5)},
		{"seldom signs", skewed()},
	}
	for n := 3; n <= 258; n += 5 {
		out = append(out, shape{"a copy of length " + fmt.Sprint(n), []api.Token{again(n, 7)}})
	}
	for _, row := range distanceRows() {
		out = append(out, shape{"a copy from " + fmt.Sprint(row[0]), []api.Token{again(4, row[0]), lone('x')}})
	}
	for range 150 {
		out = append(out, shape{"some tokens", someTokens(random, random.Intn(1<<random.Intn(11)), 32768)})
	}
	return out
}

// skewed are bytes of which each comes about as often as all those ahead together, so that the best words without a limit would be longer than may be.
func skewed() []api.Token {
	l, count, last := []api.Token{}, 1, 1
	for i := range 22 {
		l = append(l, slices.Repeat([]api.Token{lone(byte(i))}, count)...)
		if i%4 == 0 {
			l = append(l, slices.Repeat([]api.Token{again(3, 1<<(i/2))}, count)...)
		}
		count, last = count+last, count
	}
	return l
}

type writes func(w *bitio.Writer, l []api.Token, last bool) api.Errno

func kinds() map[string]writes {
	return map[string]writes{"fixed": blocks.Fixed, "dynamic": blocks.Dynamic}
}

// P9.1: a stored block's bits, one by one, from each place within a byte.
func TestStoredBits(t *testing.T) {
	noise := make([]byte, 65535)
	rand.New(rand.NewSource(4)).Read(noise)
	for ahead := range 18 {
		for _, size := range []int{0, 1, 2, 255, 256, 257, 1000} {
			for _, last := range []bool{false, true} {
				w := writerAt(ahead)
				before := textOf(w)
				if e := blocks.Stored(w, noise[:size], last); e != api.OK || textOf(w) != before+storedText(ahead, noise[:size], last) {
					t.Error(ahead, size, last, e)
				}
			}
		}
	}
	w := writerAt(5)
	if e := blocks.Stored(w, noise, true); e != api.OK || textOf(w) != textOf(writerAt(5))+storedText(5, noise, true) {
		t.Error("65535 bytes:", e)
	}
}

// P9.1: a fixed block's bits, one by one, and how many they are.
func TestFixedBits(t *testing.T) {
	for _, x := range shapes() {
		for _, last := range []bool{false, true} {
			w := writerAt(3)
			before := textOf(w)
			want := fixedText(x.l, last)
			if e := blocks.Fixed(w, x.l, last); e != api.OK || textOf(w) != before+want {
				t.Error(x.name, last, e)
			}
			if got := blocks.FixedBits(x.l); got != len(want) {
				t.Error(x.name, got, len(want))
			}
		}
	}
}

// P9.1: a dynamic block begins with its kind, has as many bits as are told, wherever it stands, and is the same each time.
func TestDynamicBits(t *testing.T) {
	for _, x := range shapes() {
		want := blocks.DynamicBits(x.l)
		text := ""
		for ahead := range 9 {
			for _, last := range []bool{false, true} {
				w := writerAt(ahead)
				if e := blocks.Dynamic(w, slices.Clone(x.l), last); e != api.OK || w.Len() != ahead+want {
					t.Error(x.name, ahead, e, w.Len(), want)
				}
				got := textOf(w)
				if !strings.HasPrefix(got, textOf(writerAt(ahead))+lastBit(last)+"01") {
					t.Error(x.name, ahead, "begins otherwise")
				}
				if text == "" {
					text = got[ahead+1:]
				}
				if got[ahead+1:] != text {
					t.Error(x.name, ahead, "the same tokens have another block")
				}
			}
		}
	}
}

// notTokens are none, each in its way.
func notTokens() []api.Token {
	return []api.Token{
		{Dist: 1}, {Dist: -1}, {Lit: 'a', Dist: 3}, {Len: 1, Dist: 1}, {Len: 2, Dist: 1}, {Len: -3, Dist: 1}, {Len: 259, Dist: 1},
		{Len: 3}, {Len: 3, Dist: -1}, {Len: 3, Dist: api.MaxBack + 1}, {Lit: 1, Len: 3, Dist: 1},
		{Len: math.MaxInt, Dist: 1}, {Len: math.MinInt, Dist: math.MinInt}, {Len: 3, Dist: math.MaxInt}, {Len: math.MinInt},
	}
}

// wantNothing holds that an error is told, and nothing written.
func wantNothing(t *testing.T, what string, want api.Errno, f func(w *bitio.Writer) api.Errno) {
	t.Helper()
	for ahead := range 9 {
		w := writerAt(ahead)
		if e := f(w); e != want || textOf(w) != textOf(writerAt(ahead)) {
			t.Errorf("%s, behind %d bits: %d, %d bits; want %d", what, ahead, e, w.Len(), want)
		}
	}
}

// P9.1: one is no token.
func TestNoToken(t *testing.T) {
	for _, x := range notTokens() {
		good := []api.Token{lone('a'), again(5, 1), lone('b')}
		for at := range len(good) + 1 {
			l := slices.Insert(slices.Clone(good), at, x)
			for name, f := range kinds() {
				wantNothing(t, name, api.ErrRange, func(w *bitio.Writer) api.Errno { return f(w, l, at == 0) })
			}
			for _, size := range []int{0, 7, 65535, 65536} {
				wantNothing(t, "write", api.ErrRange, func(w *bitio.Writer) api.Errno { return blocks.Write(w, l, make([]byte, size), at == 0) })
			}
			if n := blocks.FixedBits(l); n != 0 {
				t.Error("fixed bits:", x, n)
			}
			if n := blocks.DynamicBits(l); n != 0 {
				t.Error("dynamic bits:", x, n)
			}
		}
	}
}

// P9.1: a nil writer, ahead of all else that is wrong.
func TestNilWriter(t *testing.T) {
	for _, l := range [][]api.Token{nil, lones([]byte("ab")), notTokens()} {
		for name, f := range kinds() {
			if e := f(nil, l, true); e != api.ErrArg {
				t.Error(name, l, e)
			}
		}
		for _, size := range []int{0, 1, 65535, 65536, 100000} {
			if e := blocks.Stored(nil, make([]byte, size), false); e != api.ErrArg {
				t.Error("stored", size, e)
			}
			if e := blocks.Write(nil, l, make([]byte, size), true); e != api.ErrArg {
				t.Error("write", l, size, e)
			}
		}
	}
}

// P9.1: more bytes than a stored block has.
func TestStoredLong(t *testing.T) {
	for _, size := range []int{65536, 65537, 131071, 1 << 20} {
		wantNothing(t, "stored", api.ErrLong, func(w *bitio.Writer) api.Errno { return blocks.Stored(w, make([]byte, size), true) })
	}
}

// shortest is the block that Write must write, with its kind, and those of others that are as short.
func shortest(ahead int, l []api.Token, b []byte, last bool) (string, *bitio.Writer) {
	name, best := "", (*bitio.Writer)(nil)
	try := func(kind string, w *bitio.Writer, e api.Errno) {
		if e == api.OK && (best == nil || w.Len() < best.Len()) {
			name, best = kind, w
		} else if e == api.OK && w.Len() == best.Len() {
			name += "=" + kind
		}
	}
	stored, fixed, dynamic := writerAt(ahead), writerAt(ahead), writerAt(ahead)
	try("stored", stored, blocks.Stored(stored, b, last))
	try("fixed", fixed, blocks.Fixed(fixed, l, last))
	try("dynamic", dynamic, blocks.Dynamic(dynamic, l, last))
	return name, best
}

// wantShortest holds that Write writes the shortest block, and tells which one that is.
func wantShortest(t *testing.T, ahead int, l []api.Token, b []byte, last bool) string {
	t.Helper()
	name, want := shortest(ahead, l, b, last)
	w := writerAt(ahead)
	if e := blocks.Write(w, l, b, last); e != api.OK || textOf(w) != textOf(want) {
		t.Errorf("behind %d bits, %d tokens, %d bytes: %d, %d bits; want %s, %d bits", ahead, len(l), len(b), e, w.Len(), name, want.Len())
	}
	return name
}

// P9.1: the shortest of the three blocks from wherever the writer stands; of several the first one.
func TestWrite(t *testing.T) {
	random := rand.New(rand.NewSource(5))
	there := make([]byte, 32768)
	seen := map[string]int{}
	for _, x := range shapes() {
		b := told(there, x.l)[len(there):]
		for ahead := range 9 {
			seen[wantShortest(t, ahead, x.l, b, ahead%2 == 0)]++
		}
	}
	for range 4000 {
		b := make([]byte, random.Intn(60))
		random.Read(b)
		for i := range b {
			b[i] |= byte(random.Intn(2) * 128)
		}
		seen[wantShortest(t, random.Intn(16), lones(b), b, random.Intn(2) == 0)]++
	}
	for range 4000 {
		l := someTokens(random, random.Intn(100), 0)
		seen[wantShortest(t, random.Intn(16), l, told(nil, l), random.Intn(2) == 0)]++
	}
	for _, name := range []string{"stored", "fixed", "dynamic", "stored=fixed", "stored=dynamic", "fixed=dynamic"} {
		if seen[name] == 0 {
			t.Errorf("never seen: %s (%v)", name, seen)
		}
	}
}

// P9.1: with more bytes than a stored block has, one of the two others, though that is longer; with as many as it has, a stored one.
func TestWriteLong(t *testing.T) {
	noise := make([]byte, 65537)
	rand.New(rand.NewSource(6)).Read(noise)
	for size, want := range map[int]string{65534: "stored", 65535: "stored", 65536: "dynamic", 65537: "dynamic"} {
		b := noise[:size]
		if name := wantShortest(t, 5, lones(b), b, true); name != want {
			t.Error(size, name)
		}
	}
	l := append([]api.Token{lone(0)}, slices.Repeat([]api.Token{again(258, 1)}, 255)...)
	wantShortest(t, 1, l, told(nil, l), false)
}

// P9.1: that tokens stand for the bytes is taken as given: a stored block has the bytes, the others have the tokens.
func TestWriteTaken(t *testing.T) {
	if name := wantShortest(t, 0, nil, []byte("abc"), true); name != "fixed" {
		t.Error(name)
	}
	if name := wantShortest(t, 0, lones([]byte("abcdefgh")), nil, true); name != "stored" {
		t.Error(name)
	}
}

// library is what the Go library's inflater reads.
func library(b []byte) ([]byte, error) {
	return io.ReadAll(flate.NewReader(bytes.NewReader(b)))
}

// wantRead holds that the bytes are read from blocks that end with a last one, and that all of them are.
func wantRead(t *testing.T, what string, w *bitio.Writer, want []byte) {
	t.Helper()
	b := w.Bytes()
	if got, read, e := inflate.Inflate(b, len(want)); e != api.OK || read != len(b) || !bytes.Equal(got, want) {
		t.Errorf("%s: %d bytes of %d, %d of %d read, error %d", what, len(got), len(want), read, len(b), e)
	}
	if got, err := library(b); err != nil || !bytes.Equal(got, want) {
		t.Errorf("%s: the library reads %d bytes of %d, %v", what, len(got), len(want), err)
	}
}

// behind is a writer with blocks of bytes that are far enough for all copies, standing at each place within a byte by count.
func behind(t *testing.T, count int) (*bitio.Writer, []byte) {
	t.Helper()
	there := make([]byte, 33000)
	rand.New(rand.NewSource(7)).Read(there)
	w := bitio.NewWriter()
	high := bytes.Repeat([]byte{200}, count)
	if e := blocks.Stored(w, there, false); e != api.OK {
		t.Fatal(e)
	}
	if e := blocks.Fixed(w, lones(high), false); e != api.OK {
		t.Fatal(e)
	}
	return w, append(there, high...)
}

// P9.2: blocks of each kind, behind others, at each place within a byte, last or not, are read.
func TestRead(t *testing.T) {
	places := map[int]bool{}
	for i, x := range shapes() {
		for count := range 8 {
			if i >= 30 && count != i%8 {
				continue
			}
			for _, last := range []bool{false, true} {
				w, there := behind(t, count)
				places[w.Len()%8] = true
				want := told(there, x.l)
				readEach(t, x, w, want, want[len(there):], last)
			}
		}
	}
	if len(places) != 8 {
		t.Error("not at each place:", places)
	}
}

// readEach writes each kind of block behind what a copy of the writer has, and reads it.
func readEach(t *testing.T, x shape, w *bitio.Writer, want, b []byte, last bool) {
	t.Helper()
	for name, f := range kinds() {
		readOne(t, name+", "+x.name, w, want, last, func(w *bitio.Writer) api.Errno { return f(w, x.l, last) })
	}
	readOne(t, "write, "+x.name, w, want, last, func(w *bitio.Writer) api.Errno { return blocks.Write(w, x.l, b, last) })
	if len(b) <= 65535 {
		readOne(t, "stored, "+x.name, w, want, last, func(w *bitio.Writer) api.Errno { return blocks.Stored(w, b, last) })
	}
}

func readOne(t *testing.T, what string, ahead *bitio.Writer, want []byte, last bool, f func(w *bitio.Writer) api.Errno) {
	t.Helper()
	w := cloned(ahead)
	if e := f(w); e != api.OK {
		t.Error(what, e)
	}
	want = slices.Clone(want)
	if !last {
		if e := blocks.Dynamic(w, []api.Token{lone('e'), again(4, 1)}, true); e != api.OK {
			t.Error(what, e)
		}
		want = append(want, "eeeee"...)
	}
	wantRead(t, what, w, want)
}

// cloned is a writer of the same bits.
func cloned(w *bitio.Writer) *bitio.Writer {
	out := bitio.NewWriter()
	r := bitio.NewReader(w.Bytes())
	left := w.Len()
	for left > 0 {
		n := min(left, 32)
		v, _ := r.Get(n)
		out.Put(v, n)
		left -= n
	}
	return out
}

// P9.2: a block first of all, alone.
func TestReadFirst(t *testing.T) {
	random := rand.New(rand.NewSource(8))
	for range 400 {
		l := someTokens(random, random.Intn(1<<random.Intn(12)), 0)
		b := told(nil, l)
		readEach(t, shape{"first", l}, bitio.NewWriter(), b, b, random.Intn(2) == 0)
	}
}

// P9.2: many blocks of all kinds, one behind the other.
func TestReadMany(t *testing.T) {
	random := rand.New(rand.NewSource(9))
	for range 60 {
		w, want := bitio.NewWriter(), []byte{}
		count := 1 + random.Intn(30)
		for i := range count {
			l := someTokens(random, random.Intn(60), len(want))
			b := told(want, l)[len(want):]
			last := i == count-1
			e := api.OK
			switch random.Intn(4) {
			case 0:
				e = blocks.Stored(w, b, last)
			case 1:
				e = blocks.Fixed(w, l, last)
			case 2:
				e = blocks.Dynamic(w, l, last)
			default:
				e = blocks.Write(w, l, b, last)
			}
			if e != api.OK {
				t.Fatal(e)
			}
			want = append(want, b...)
		}
		wantRead(t, "many", w, want)
	}
}

// P9.1, P9.2: one sign that comes more often than layer 4 counts.
func TestVeryOften(t *testing.T) {
	l := slices.Repeat([]api.Token{lone('n')}, 1<<24+5)
	l = append(l, lone('a'), again(3, 1), lone('b'))
	w := bitio.NewWriter()
	if e := blocks.Dynamic(w, l, true); e != api.OK || w.Len() != blocks.DynamicBits(l) {
		t.Fatal(e, w.Len(), blocks.DynamicBits(l))
	}
	got, err := library(w.Bytes())
	if want := append(bytes.Repeat([]byte("n"), 1<<24+5), "aaaab"...); err != nil || !bytes.Equal(got, want) {
		t.Error(len(got), err)
	}
}

// P9.1: nothing that is handed in changes.
func TestMemory(t *testing.T) {
	l := allSigns()
	b := []byte("abc")
	for name, f := range kinds() {
		if e := f(bitio.NewWriter(), l, true); e != api.OK {
			t.Error(name, e)
		}
	}
	blocks.FixedBits(l)
	blocks.DynamicBits(l)
	w := bitio.NewWriter()
	blocks.Stored(w, b, false)
	blocks.Write(w, lones(b), b, true)
	if !slices.Equal(l, allSigns()) || string(b) != "abc" {
		t.Error("changed")
	}
	kept := w.Bytes()
	clear(b)
	if !bytes.Equal(w.Bytes(), kept) {
		t.Error("what is written changed with the bytes")
	}
}
