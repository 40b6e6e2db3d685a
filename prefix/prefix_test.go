package prefix_test

import (
	"bytes"
	"math"
	"math/rand"
	"slices"
	"strconv"
	"strings"
	"testing"

	"packsaddle/api"
	"packsaddle/bitio"
	"packsaddle/lengths"
	"packsaddle/prefix"
)

// wordsOf are the words of right lengths by the chapter's sentence.
func wordsOf(l []int) []uint32 {
	signs := []int{}
	for sign, n := range l {
		if n > 0 {
			signs = append(signs, sign)
		}
	}
	slices.SortStableFunc(signs, func(a, b int) int { return l[a] - l[b] })
	out := make([]uint32, len(l))
	for i, sign := range signs {
		if i > 0 {
			ahead := signs[i-1]
			out[sign] = (out[ahead] + 1) << (l[sign] - l[ahead])
		}
	}
	return out
}

// texts are the words of right lengths as texts of 0 and 1, the highest bit first; of a sign that has none an empty one.
func texts(l []int) []string {
	out := make([]string, len(l))
	for sign, word := range wordsOf(l) {
		if l[sign] > 0 {
			text := strconv.FormatUint(uint64(word), 2)
			out[sign] = strings.Repeat("0", l[sign]-len(text)) + text
		}
	}
	return out
}

// textOf is what a writer has, bit by bit.
func textOf(w *bitio.Writer) string {
	out := ""
	for i := range w.Len() {
		out += string('0' + w.Bytes()[i/8]>>(i%8)&1)
	}
	return out
}

// readerOf is a reader that has just these bits left. Ahead of them it has read some bits of 1, so that they end where bytes end.
func readerOf(text string) *bitio.Reader {
	w := bitio.NewWriter()
	fill := (8 - len(text)%8) % 8
	w.Put(math.MaxUint32, fill)
	for _, x := range text {
		w.Put(uint32(x-'0'), 1)
	}
	r := bitio.NewReader(w.Bytes())
	r.Get(fill)
	return r
}

// eachRow hands out all rows of so many numbers, each from least to most. What is handed out is the caller's only till it answers.
func eachRow(count, least, most int, use func([]int)) {
	row := slices.Repeat([]int{least}, count)
	for {
		use(row)
		i := 0
		for i < count && row[i] == most {
			row[i] = least
			i++
		}
		if i == count {
			return
		}
		row[i]++
	}
}

// ladder are whole lengths from 1 bit to MaxBits.
func ladder() []int {
	out := []int{}
	for n := range api.MaxBits {
		out = append(out, n+1)
	}
	return append(out, api.MaxBits)
}

// rightRows are right lengths of many shapes.
func rightRows(t *testing.T) [][]int {
	t.Helper()
	out := [][]int{nil, {}, {0}, {0, 0, 0}, {1}, {0, 0, 1, 0}, {1, 1}, {1, 2, 2}, ladder(), slices.Repeat([]int{8}, 256), slices.Repeat([]int{5}, 32)}
	down := ladder()
	slices.Reverse(down)
	fixed := slices.Concat(slices.Repeat([]int{8}, 144), slices.Repeat([]int{9}, 112), slices.Repeat([]int{7}, 24), slices.Repeat([]int{8}, 8))
	out = append(out, down, fixed, append(make([]int, 1000), 2, 0, 1, 2), slices.Repeat([]int{15}, 1<<15))
	random := rand.New(rand.NewSource(1))
	for range 60 {
		often := make([]int, 2+random.Intn(299))
		for i := range often {
			often[i] = random.Intn(3) * random.Intn(1<<random.Intn(24)+1)
		}
		l, e := lengths.Best(often, 9+random.Intn(7))
		if e != api.OK {
			t.Fatal(often, e)
		}
		out = append(out, l)
	}
	return out
}

// wrongRows are lengths of which no code is made.
func wrongRows() [][]int {
	return [][]int{
		{2}, {0, 15}, {1, 2}, {2, 2, 2}, {1, 1, 1}, {1, 2, 2, 2}, {1, 1, 15}, ladder()[:15], append(ladder(), 15),
		{-1}, {1, -1}, {1, 1, -1}, {0, -1}, {16}, {1, 16}, {1, 1, 16}, {math.MinInt, 1, 1}, {1, 1, math.MaxInt},
		slices.Repeat([]int{1}, 1<<18+2), slices.Repeat([]int{15}, 1<<15+1), slices.Repeat([]int{15}, 1<<15-1),
	}
}

func wantWords(t *testing.T, l []int, want []uint32, e api.Errno) {
	t.Helper()
	kept := slices.Clone(l)
	got, gotE := prefix.Words(l)
	if !slices.Equal(got, want) || gotE != e {
		t.Errorf("Words of %d lengths, %v .. = %v .., %d; want %v .., %d", len(l), l[:min(len(l), 20)], got[:min(len(got), 20)], gotE, want[:min(len(want), 20)], e)
	}
	if !slices.Equal(l, kept) {
		t.Error("Words changed its argument", kept)
	}
}

func newCode(t *testing.T, l []int) *prefix.Code {
	t.Helper()
	kept := slices.Clone(l)
	c, e := prefix.New(l)
	if c == nil || e != api.OK {
		t.Fatalf("New of %d lengths, %v .. = %v, %d", len(l), l[:min(len(l), 20)], c, e)
	}
	if c.Signs() != len(l) || !slices.Equal(l, kept) {
		t.Fatalf("New of %d lengths has %d signs; they are now %v", len(l), c.Signs(), l[:min(len(l), 20)])
	}
	return c
}

func wantPut(t *testing.T, c *prefix.Code, w *bitio.Writer, sign int, e api.Errno, more string) {
	t.Helper()
	want := textOf(w) + more
	if got := c.Put(w, sign); got != e || textOf(w) != want {
		t.Errorf("Put of %d = %d, bits %s; want %d, bits %s", sign, got, textOf(w), e, want)
	}
}

// wantGot asks Get, and then the reader what it has left.
func wantGot(t *testing.T, c *prefix.Code, r *bitio.Reader, sign int, e api.Errno, left string) {
	t.Helper()
	got, gotE := c.Get(r)
	if got != sign || gotE != e || r.Left() != len(left) {
		t.Errorf("Get = %d, %d with %d bits left; want %d, %d with %s", got, gotE, r.Left(), sign, e, left)
	}
	ahead := *r
	for i, x := range left {
		if bit, _ := ahead.Get(1); bit != uint32(x-'0') {
			t.Errorf("behind Get bit %d is %d, want %s", i, bit, left)
		}
	}
}

// gotOf is what Get should answer where these bits are left, by the chapter's sentence, and what is left then.
func gotOf(l []int, bits string) (int, api.Errno, string) {
	begins := false
	for sign, text := range texts(l) {
		if text != "" && strings.HasPrefix(bits, text) {
			return sign, api.OK, bits[len(text):]
		}
		begins = begins || text != "" && strings.HasPrefix(text, bits)
	}
	if begins {
		return 0, api.ErrEnd, bits
	}
	return 0, api.ErrCode, bits
}

// eachText hands out all texts of 0 and 1 up to so many bits.
func eachText(most int, use func(string)) {
	for n := range most + 1 {
		eachRow(n, 0, 1, func(row []int) {
			text := ""
			for _, x := range row {
				text += strconv.Itoa(x)
			}
			use(text)
		})
	}
}

// P5.1: Words at the chapter's example and at others, counted by hand.
func TestWords(t *testing.T) {
	wantWords(t, []int{1, 2, 2}, []uint32{0, 2, 3}, api.OK)
	wantWords(t, []int{2, 1, 2}, []uint32{2, 0, 3}, api.OK)
	wantWords(t, []int{2, 1, 3, 3}, []uint32{2, 0, 6, 7}, api.OK)
	wantWords(t, []int{3, 3, 3, 3, 3, 2, 4, 4}, []uint32{2, 3, 4, 5, 6, 0, 14, 15}, api.OK)
	wantWords(t, []int{0, 3, 0, 1, 3, 3, 3}, []uint32{0, 4, 0, 0, 5, 6, 7}, api.OK)
	wantWords(t, []int{1}, []uint32{0}, api.OK)
	wantWords(t, []int{0, 1, 0}, []uint32{0, 0, 0}, api.OK)
	wantWords(t, []int{0, 0}, []uint32{0, 0}, api.OK)
	wantWords(t, nil, nil, api.OK)
	wantWords(t, []int{}, nil, api.OK)
}

// P5.1: words of right lengths are those of the chapter's sentence.
func TestWordsOfMany(t *testing.T) {
	for _, l := range rightRows(t) {
		wantWords(t, l, wordsOf(l), api.OK)
	}
	for count := range 7 {
		eachRow(count, -1, 4, func(l []int) {
			if lengths.Kind(l) == lengths.Wrong {
				wantWords(t, l, nil, api.ErrCode)
			} else {
				wantWords(t, l, wordsOf(l), api.OK)
			}
		})
	}
}

// P5.1: of lengths that aren't right there are neither words nor a code.
func TestWrongLengths(t *testing.T) {
	for _, l := range wrongRows() {
		wantWords(t, l, nil, api.ErrCode)
		if c, e := prefix.New(l); c != nil || e != api.ErrCode {
			t.Errorf("New of %v .. = %v, %d", l[:min(len(l), 20)], c, e)
		}
	}
}

// P5.1: a code has as many signs as it was made of, with words or without.
func TestSigns(t *testing.T) {
	for _, l := range rightRows(t) {
		if got := newCode(t, l).Signs(); got != len(l) {
			t.Errorf("%d signs, want %d", got, len(l))
		}
	}
}

// P5.1: Put writes words with the highest bit first, behind what stands there.
func TestPut(t *testing.T) {
	c := newCode(t, []int{2, 0, 1, 3, 3})
	w := bitio.NewWriter()
	wantPut(t, c, w, 0, api.OK, "10")
	wantPut(t, c, w, 2, api.OK, "0")
	wantPut(t, c, w, 3, api.OK, "110")
	wantPut(t, c, w, 4, api.OK, "111")
	wantPut(t, c, w, 0, api.OK, "10")
	if !bytes.Equal(w.Bytes(), []byte{0xd9, 0x03}) {
		t.Errorf("bytes %x", w.Bytes())
	}
	wantPut(t, newCode(t, []int{0, 1}), w, 1, api.OK, "0")
	for _, l := range rightRows(t) {
		c, all := newCode(t, l), texts(l)
		for sign := 0; sign < len(l); sign += 1 + len(l)/300 {
			w := bitio.NewWriter()
			w.Put(5, 3)
			if l[sign] == 0 {
				wantPut(t, c, w, sign, api.ErrRange, "")
			} else {
				wantPut(t, c, w, sign, api.OK, all[sign])
			}
		}
	}
}

// P5.1: a sign that isn't there, or has no word, isn't written.
func TestPutErrors(t *testing.T) {
	for _, l := range [][]int{nil, {0}, {0, 1}, {0, 2, 1, 2}, {0, 0, 0}} {
		c, w := newCode(t, l), bitio.NewWriter()
		w.Put(1, 2)
		for _, sign := range []int{0, -1, len(l), len(l) + 1, math.MinInt, math.MaxInt} {
			wantPut(t, c, w, sign, api.ErrRange, "")
		}
	}
}

// P5.1: Get at ordinary bits, one sign behind another.
func TestGet(t *testing.T) {
	c := newCode(t, []int{2, 0, 1, 3, 3})
	r := readerOf("100110111101")
	wantGot(t, c, r, 0, api.OK, "0110111101")
	wantGot(t, c, r, 2, api.OK, "110111101")
	wantGot(t, c, r, 3, api.OK, "111101")
	wantGot(t, c, r, 4, api.OK, "101")
	wantGot(t, c, r, 0, api.OK, "1")
	wantGot(t, c, r, 0, api.ErrEnd, "1")
	wantGot(t, c, r, 0, api.ErrEnd, "1")
}

// P5.1: Get of a code of one word: a bit of 1 is no word's beginning, be it the last one or not.
func TestGetAlone(t *testing.T) {
	c := newCode(t, []int{0, 0, 1})
	wantGot(t, c, readerOf("0"), 2, api.OK, "")
	wantGot(t, c, readerOf("01"), 2, api.OK, "1")
	wantGot(t, c, readerOf("1"), 0, api.ErrCode, "1")
	wantGot(t, c, readerOf("10"), 0, api.ErrCode, "10")
	wantGot(t, c, readerOf("1111111100000000"), 0, api.ErrCode, "1111111100000000")
	wantGot(t, c, readerOf(""), 0, api.ErrEnd, "")
}

// P5.1: Get of a code without words, with bits and without.
func TestGetNone(t *testing.T) {
	for _, l := range [][]int{nil, {0}, {0, 0, 0}} {
		c := newCode(t, l)
		for _, bits := range []string{"", "0", "1", "01", strings.Repeat("01", 20)} {
			wantGot(t, c, readerOf(bits), 0, api.ErrCode, bits)
		}
	}
}

// P5.1: Get of all short codes at all short rows of bits is what the chapter's sentence says, with nothing read beside an error.
func TestGetOfAll(t *testing.T) {
	for count := range 6 {
		eachRow(count, 0, 4, func(l []int) {
			if lengths.Kind(l) == lengths.Wrong {
				return
			}
			c := newCode(t, l)
			eachText(6, func(bits string) {
				sign, e, left := gotOf(l, bits)
				wantGot(t, c, readerOf(bits), sign, e, left)
			})
		})
	}
}

// P5.1: bits that end within a word of whatever length are left as they were.
func TestGetEnd(t *testing.T) {
	for _, l := range rightRows(t) {
		c, all := newCode(t, l), texts(l)
		for sign := 0; sign < len(l); sign += 1 + len(l)/60 {
			for cut := range all[sign] {
				wantGot(t, c, readerOf(all[sign][:cut]), 0, api.ErrEnd, all[sign][:cut])
			}
			if l[sign] > 0 {
				wantGot(t, c, readerOf(all[sign]), sign, api.OK, "")
				wantGot(t, c, readerOf(all[sign]+"0110"), sign, api.OK, "0110")
			}
		}
	}
}

// P5.1: a nil code has nothing, whatever it is handed, and touches none of it.
func TestNilCode(t *testing.T) {
	var c *prefix.Code
	if c.Signs() != 0 {
		t.Error("signs of a nil code", c.Signs())
	}
	w := bitio.NewWriter()
	w.Put(1, 1)
	for _, sign := range []int{-1, 0, 1, math.MaxInt} {
		wantPut(t, c, w, sign, api.ErrArg, "")
		if e := c.Put(nil, sign); e != api.ErrArg {
			t.Error("Put of a nil code to a nil writer", e)
		}
	}
	wantGot(t, c, readerOf("010"), 0, api.ErrArg, "010")
	wantGot(t, c, readerOf(""), 0, api.ErrArg, "")
	if sign, e := c.Get(nil); sign != 0 || e != api.ErrArg {
		t.Error("Get of a nil code from a nil reader", sign, e)
	}
}

// P5.1: a nil writer or reader is told as layer 1 tells it, behind what this layer's chapter names.
func TestNilWriterAndReader(t *testing.T) {
	c := newCode(t, []int{1, 0, 1})
	for sign, want := range map[int]api.Errno{0: api.ErrArg, 1: api.ErrRange, 2: api.ErrArg, 3: api.ErrRange, -1: api.ErrRange} {
		if e := c.Put(nil, sign); e != want {
			t.Errorf("Put(nil, %d) = %d, want %d", sign, e, want)
		}
	}
	if sign, e := c.Get(nil); sign != 0 || e != api.ErrArg {
		t.Error("Get(nil)", sign, e)
	}
	if sign, e := newCode(t, []int{0}).Get(nil); sign != 0 || e != api.ErrCode {
		t.Error("Get(nil) of a code without words", sign, e)
	}
}

// P5.1: a code that New didn't make has no signs.
func TestEmptyCode(t *testing.T) {
	c := &prefix.Code{}
	if c.Signs() != 0 {
		t.Error("signs", c.Signs())
	}
	wantPut(t, c, bitio.NewWriter(), 0, api.ErrRange, "")
	wantGot(t, c, readerOf("01"), 0, api.ErrCode, "01")
	wantGot(t, c, &bitio.Reader{}, 0, api.ErrCode, "")
	wantGot(t, newCode(t, []int{1}), &bitio.Reader{}, 0, api.ErrEnd, "")
}

// P5.1: a code keeps what it was made of, whatever becomes of that, and words are new memory.
func TestCodeMemory(t *testing.T) {
	l := []int{1, 2, 2}
	c := newCode(t, l)
	l[0], l[1], l[2] = 0, 0, 1
	wantPut(t, c, bitio.NewWriter(), 0, api.OK, "0")
	wantPut(t, c, bitio.NewWriter(), 1, api.OK, "10")
	wantGot(t, c, readerOf("11"), 2, api.OK, "")
	words, _ := prefix.Words([]int{1, 2, 2})
	clear(words)
	wantWords(t, []int{1, 2, 2}, []uint32{0, 2, 3}, api.OK)
}

// P5.1: a reader that has been asked goes on by itself: readers of the same bytes don't meet.
func TestGetLeavesReader(t *testing.T) {
	c := newCode(t, []int{2, 0, 1, 3, 3})
	r := readerOf("1001101101011010")
	wantGot(t, c, r, 0, api.OK, "01101101011010")
	if v, e := r.Get(3); v != 6 || e != api.OK {
		t.Error("bits behind a word", v, e)
	}
	wantGot(t, c, r, 2, api.OK, "1101011010")
	r.Align()
	if b, e := r.Take(1); !bytes.Equal(b, []byte{0x5a}) || e != api.OK {
		t.Error("bytes behind a word", b, e)
	}
}

// P5.2: signs that are written are read, with other bits among them.
func TestWrittenIsRead(t *testing.T) {
	random := rand.New(rand.NewSource(2))
	for _, l := range rightRows(t) {
		c, w := newCode(t, l), bitio.NewWriter()
		signs := []int{}
		for sign, n := range l {
			if n > 0 {
				signs = append(signs, sign)
			}
		}
		if len(signs) == 0 {
			continue
		}
		random.Shuffle(len(signs), func(i, k int) { signs[i], signs[k] = signs[k], signs[i] })
		for range 50 {
			signs = append(signs, signs[random.Intn(len(signs))])
		}
		for i, sign := range signs {
			if e := c.Put(w, sign); e != api.OK {
				t.Fatalf("Put of %d: %d", sign, e)
			}
			w.Put(uint32(i), i%4)
		}
		r := bitio.NewReader(w.Bytes())
		for i, sign := range signs {
			if got, e := c.Get(r); got != sign || e != api.OK {
				t.Fatalf("sign %d: Get = %d, %d, want %d", i, got, e, sign)
			}
			if v, e := r.Get(i % 4); v != uint32(i)&(1<<(i%4)-1) || e != api.OK {
				t.Fatalf("behind sign %d: %d, %d", i, v, e)
			}
		}
		if r.Left() > 7 {
			t.Fatal("bits left", r.Left())
		}
	}
}

// P5.2: two codes by turns, in one row of bits.
func TestTwoCodes(t *testing.T) {
	a, b, w := newCode(t, ladder()), newCode(t, []int{2, 0, 1, 3, 3}), bitio.NewWriter()
	for sign := range 16 {
		a.Put(w, sign)
		b.Put(w, sign%3+2)
	}
	r := bitio.NewReader(w.Bytes())
	for sign := range 16 {
		gotA, eA := a.Get(r)
		gotB, eB := b.Get(r)
		if gotA != sign || gotB != sign%3+2 || eA != api.OK || eB != api.OK {
			t.Fatal(sign, gotA, eA, gotB, eB)
		}
	}
}

// P5.2: no word is another one's beginning.
func TestNoBeginning(t *testing.T) {
	for _, l := range rightRows(t) {
		words, _ := prefix.Words(l)
		all := []string{}
		for sign, n := range l {
			if n > 0 {
				text := strconv.FormatUint(uint64(words[sign]), 2)
				if len(text) > n {
					t.Fatalf("word %s of %d bits", text, n)
				}
				all = append(all, strings.Repeat("0", n-len(text))+text)
			}
		}
		slices.Sort(all) // a beginning stands right ahead of what it begins, or of another such one
		for i := 1; i < len(all); i++ {
			if strings.HasPrefix(all[i], all[i-1]) {
				t.Fatalf("%s begins %s, lengths %v", all[i-1], all[i], l)
			}
		}
	}
}
