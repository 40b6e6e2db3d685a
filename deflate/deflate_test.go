package deflate_test

import (
	"bytes"
	"compress/flate"
	"fmt"
	"io"
	"math"
	"math/rand"
	"slices"
	"strings"
	"testing"

	"packsaddle/api"
	"packsaddle/bitio"
	"packsaddle/blocks"
	"packsaddle/deflate"
	"packsaddle/inflate"
	"packsaddle/match"
)

// lone is a byte's token.
func lone(b byte) api.Token { return api.Token{Lit: b} }

// again is a copy's token.
func again(n, back int) api.Token { return api.Token{Len: n, Dist: back} }

// lones are so many tokens of bytes.
func lones(count int) []api.Token { return slices.Repeat([]api.Token{lone('a')}, count) }

// longest are so many copies of the greatest length.
func longest(count int) []api.Token { return slices.Repeat([]api.Token{again(258, 1)}, count) }

// shape is a row of bytes, with a name.
type shape struct {
	name string
	b    []byte
}

// noise are bytes without any order.
func noise(seed int64, n int) []byte {
	b := make([]byte, n)
	rand.New(rand.NewSource(seed)).Read(b)
	return b
}

// fewOf are bytes without any order, of few kinds.
func fewOf(seed int64, n, kinds int) []byte {
	random, b := rand.New(rand.NewSource(seed)), make([]byte, n)
	for i := range b {
		b[i] = byte(random.Intn(kinds))
	}
	return b
}

// text is made of few words, in no order.
func text(seed int64, n int) []byte {
	random, out := rand.New(rand.NewSource(seed)), []byte{}
	words := []string{"class ", "public ", "java/lang/Object", "(I)V", "; ", "this", "\n\t", "return ", "the quick brown fox "}
	for len(out) < n {
		out = append(out, words[random.Intn(len(words))]...)
	}
	return out[:n]
}

// farCopies are bytes without any order, and behind them pieces of so many bytes from just within reach: copies that are hardly shorter than what they stand for.
func farCopies(seed int64, n, piece int) []byte {
	random, b := rand.New(rand.NewSource(seed)), noise(seed+1, min(n, 32768))
	for len(b) < n {
		from := len(b) - 32768 + random.Intn(8000)
		b = append(b, b[from:from+piece]...)
	}
	return b[:n]
}

// edges are lengths about the multiples of what one block has.
func edges() []int {
	out := []int{0, 1, 2, 3, 4, 10, 100, 257, 258, 259, 1000, 10000, 32767, 32768, 32769}
	for _, times := range []int{1, 2, 3, 4, 7} {
		for beside := -2; beside <= 2; beside++ {
			out = append(out, 65535*times+beside)
		}
		out = append(out, 65536*times, 65536*times+1)
	}
	return out
}

// shapes are rows of many kinds.
func shapes() []shape {
	out := []shape{
		{"nothing", nil},
		{"an empty row", []byte{}},
		{"one nought", []byte{0}},
		{"one byte", []byte("a")},
		{"the last byte", []byte{255}},
		{"a short row again", []byte("abcabcabcabcabcabc")},
		{"the quick brown fox", []byte("the quick brown fox")},
		{"5000 noughts", make([]byte, 5000)},
		{"noise, then noughts", append(noise(1, 100000), make([]byte, 300000)...)},
		{"noughts, then noise", append(make([]byte, 300000), noise(2, 100000)...)},
		{"noise told again from as far as may be", bytes.Repeat(noise(3, 32768), 5)},
		{"noise told again from too far", bytes.Repeat(noise(4, 32769), 5)},
		{"all bytes, rising, many times", bytes.Repeat(rising(), 700)},
	}
	for _, n := range edges() {
		out = append(out,
			shape{fmt.Sprint("noise of ", n), noise(int64(n), n)},
			shape{fmt.Sprint("one byte told ", n, " times"), bytes.Repeat([]byte{'x'}, n)},
			shape{fmt.Sprint("text of ", n), text(int64(n), n)})
	}
	for i, n := range []int{65536, 131071, 200000, 400000} {
		for _, piece := range []int{3, 4, 5, 258} {
			out = append(out, shape{fmt.Sprint("far copies of ", piece, " in ", n), farCopies(int64(i), n, piece)})
		}
		for _, kinds := range []int{2, 3, 16, 128, 250} {
			out = append(out, shape{fmt.Sprint(n, " bytes of ", kinds, " kinds"), fewOf(int64(i), n, kinds)})
		}
	}
	return out
}

// shortShapes are those of at most so many bytes.
func shortShapes(most int) []shape {
	return slices.DeleteFunc(shapes(), func(x shape) bool { return len(x.b) > most })
}

// rising are all bytes.
func rising() []byte {
	out := make([]byte, 256)
	for i := range out {
		out[i] = byte(i)
	}
	return out
}

// mixed are pieces of many kinds and lengths, one behind the other.
func mixed(random *rand.Rand) []byte {
	out := []byte{}
	for range 1 + random.Intn(8) {
		n := random.Intn(1 << random.Intn(18))
		switch random.Intn(4) {
		case 0:
			out = append(out, noise(random.Int63(), n)...)
		case 1:
			out = append(out, bytes.Repeat([]byte{byte(random.Intn(256))}, n)...)
		case 2:
			out = append(out, text(random.Int63(), n)...)
		default:
			out = append(out, fewOf(random.Int63(), n, 1+random.Intn(256))...)
		}
	}
	return out
}

// library is what Go's own library reads; all bytes must be read.
func library(b []byte) ([]byte, error) {
	in := bytes.NewReader(b)
	out, err := io.ReadAll(flate.NewReader(in))
	if err == nil && in.Len() > 0 {
		err = fmt.Errorf("%d bytes are left", in.Len())
	}
	return out, err
}

// wantShort asks that so many bytes are no more than may be made of n.
func wantShort(t *testing.T, what string, n, made int) {
	t.Helper()
	if most := n + 12*(n/65535) + 20; made > most {
		t.Errorf("%s: %d bytes of %d; at most %d", what, made, n, most)
	}
}

// wantInflated asks for bytes behind an inflating.
func wantInflated(t *testing.T, what string, b []byte, most int, want []byte) {
	t.Helper()
	if out, e := deflate.Inflate(b, most); !bytes.Equal(out, want) || e != api.OK {
		t.Errorf("%s: %d bytes (%.40q), %d; want %d (%.40q)", what, len(out), out, e, len(want), want)
	}
}

// wantError asks for an error, and nothing beside it.
func wantError(t *testing.T, what string, b []byte, most int, want api.Errno) {
	t.Helper()
	if out, e := deflate.Inflate(b, most); len(out) != 0 || e != want {
		t.Errorf("%s: %d bytes, %d; want none, %d", what, len(out), e, want)
	}
}

// wantBack asks that what is deflated is within its bound, and inflated by the program, by layer 6, and by the library, with all bytes read.
func wantBack(t *testing.T, x shape) {
	t.Helper()
	d := deflate.Deflate(x.b)
	wantShort(t, x.name, len(x.b), len(d))
	wantInflated(t, x.name, d, len(x.b), x.b)
	wantInflated(t, x.name+", with room", d, api.MaxBytes, x.b)
	if len(x.b) > 0 {
		wantError(t, x.name+", a byte too little room", d, len(x.b)-1, api.ErrLong)
		wantError(t, x.name+", no room", d, 0, api.ErrLong)
	}
	if out, read, e := inflate.Inflate(d, len(x.b)); !bytes.Equal(out, x.b) || read != len(d) || e != api.OK {
		t.Errorf("%s: layer 6 reads %d bytes from %d of %d, %d", x.name, len(out), read, len(d), e)
	}
	if out, err := library(d); err != nil || !bytes.Equal(out, x.b) {
		t.Errorf("%s: the library reads %d bytes of %d, %v", x.name, len(out), len(x.b), err)
	}
}

// P10.1, P10.2: rows of many shapes, within the bound, are told back.
func TestBack(t *testing.T) {
	for _, x := range shapes() {
		wantBack(t, x)
	}
}

// P10.1, P10.2: every short length.
func TestBackShort(t *testing.T) {
	for n := range 700 {
		wantBack(t, shape{fmt.Sprint("noise of ", n), noise(int64(n), n)})
		wantBack(t, shape{fmt.Sprint("noughts of ", n), make([]byte, n)})
	}
	for b := range 256 {
		wantBack(t, shape{fmt.Sprint("byte ", b), []byte{byte(b)}})
	}
}

// P10.1, P10.2: pieces of many kinds.
func TestBackMixed(t *testing.T) {
	random := rand.New(rand.NewSource(11))
	for i := range 60 {
		wantBack(t, shape{fmt.Sprint("mixed ", i), mixed(random)})
	}
}

// P10.1, P10.2: as many bytes as may be inflated at once; of more the library reads what inflating has no room for.
func TestBackLong(t *testing.T) {
	wantBack(t, shape{"as many noughts as may be", make([]byte, api.MaxBytes)})
	b := make([]byte, api.MaxBytes+1)
	d := deflate.Deflate(b)
	wantError(t, "a nought too many", d, api.MaxBytes, api.ErrLong)
	if out, err := library(d); err != nil || !bytes.Equal(out, b) {
		t.Error("a nought too many:", len(out), err)
	}
}

// P10.1: few bytes for many noughts.
func TestNoughts(t *testing.T) {
	if d := deflate.Deflate(make([]byte, 5000)); len(d) >= 100 {
		t.Error("5000 noughts:", len(d))
	}
}

// P10.1: the chapter's example, and the smallest row.
func TestNothing(t *testing.T) {
	for _, b := range [][]byte{nil, {}} {
		d := deflate.Deflate(b)
		wantShort(t, "nothing", 0, len(d))
		wantInflated(t, "nothing", d, 0, nil)
	}
}

// P10.1: the same bytes have the same, whatever else was deflated, and wherever they stand.
func TestSame(t *testing.T) {
	for _, x := range shortShapes(70000) {
		first := deflate.Deflate(x.b)
		within := append(append(noise(5, 100), x.b...), noise(6, 100)...)
		deflate.Deflate(within)
		if second := deflate.Deflate(within[100 : 100+len(x.b)]); !bytes.Equal(first, second) {
			t.Error("not the same:", x.name)
		}
	}
}

// P10.1: each part of the bytes' tokens is a block, and the last one is the last one.
func TestBlocks(t *testing.T) {
	for _, x := range shortShapes(140000) {
		w, l, b := bitio.NewWriter(), match.Tokens(x.b), x.b
		for _, count := range deflate.Parts(l) {
			size := told(l[:count])
			if e := blocks.Write(w, l[:count], b[:size], count == len(l)); e != api.OK {
				t.Fatal(x.name, e)
			}
			l, b = l[count:], b[size:]
		}
		if !bytes.Equal(w.Bytes(), deflate.Deflate(x.b)) {
			t.Error("other blocks:", x.name)
		}
	}
}

// P10.1, P5: nothing that is handed in changes, and no answer hangs on it.
func TestMemory(t *testing.T) {
	for _, x := range []shape{{"noise", noise(7, 70000)}, {"text", text(8, 70000)}} {
		b := slices.Clone(x.b)
		d := deflate.Deflate(b)
		if !bytes.Equal(b, x.b) {
			t.Error("deflating changes what it was handed:", x.name)
		}
		kept := slices.Clone(d)
		clear(b)
		if !bytes.Equal(d, kept) {
			t.Error("what is deflated hangs on the bytes:", x.name)
		}
		out, _ := deflate.Inflate(d, len(x.b))
		if !bytes.Equal(d, kept) {
			t.Error("inflating changes what it was handed:", x.name)
		}
		clear(d)
		if !bytes.Equal(out, x.b) {
			t.Error("what is inflated hangs on the bytes:", x.name)
		}
	}
}

// made has blocks of all kinds by hand: "abc" stored, "abc" by a copy in a fixed block, and 200 times "c" in a dynamic one.
func made(t *testing.T) ([]byte, []byte) {
	t.Helper()
	w := bitio.NewWriter()
	if e := blocks.Stored(w, []byte("abc"), false); e != api.OK {
		t.Fatal(e)
	}
	if e := blocks.Fixed(w, []api.Token{again(3, 3)}, false); e != api.OK {
		t.Fatal(e)
	}
	if e := blocks.Dynamic(w, []api.Token{again(200, 1)}, true); e != api.OK {
		t.Fatal(e)
	}
	return w.Bytes(), []byte("abcabc" + strings.Repeat("c", 200))
}

// P10.1: what others deflated is inflated, too: blocks of all kinds by hand, and what the library makes.
func TestInflateOthers(t *testing.T) {
	b, want := made(t)
	wantInflated(t, "by hand", b, len(want), want)
	for _, level := range []int{flate.HuffmanOnly, flate.NoCompression, flate.BestSpeed, flate.BestCompression} {
		for _, x := range shortShapes(70000) {
			out := bytes.Buffer{}
			w, err := flate.NewWriter(&out, level)
			if err != nil {
				t.Fatal(err)
			}
			w.Write(x.b)
			w.Close()
			wantInflated(t, fmt.Sprint(x.name, ", level ", level), out.Bytes(), len(x.b), x.b)
		}
	}
}

// P10.1: bytes behind the last block are no form, however many and whatever they are; bits in its last byte are none.
func TestInflateBehind(t *testing.T) {
	hand, want := made(t)
	for _, b := range [][]byte{hand, deflate.Deflate(want), {0x4b, 4, 0}, {3, 0}, {1, 0, 0, 255, 255}, {1, 1, 0, 254, 255, 'a'}} {
		for _, behind := range [][]byte{{0}, {1}, {255}, {0, 0}, noise(9, 1000), b} {
			wantError(t, "behind", slices.Concat(b, behind), api.MaxBytes, api.ErrForm)
			wantError(t, "behind, with just enough room", slices.Concat(b, behind), len(want), api.ErrForm)
		}
	}
	wantError(t, "behind nothing, without room", []byte{3, 0, 0}, 0, api.ErrForm)
	for high := range 64 {
		wantInflated(t, "other bits in the last byte", []byte{3, byte(high << 2)}, 0, nil)
	}
}

// P10.1: layer 6's errors, one of each, also where bytes stand behind.
func TestInflateErrors(t *testing.T) {
	wrong := []struct {
		name string
		b    []byte
		most int
		want api.Errno
	}{
		{"nothing", nil, 10, api.ErrEnd},
		{"no room that may be", []byte{3, 0}, -1, api.ErrArg},
		{"more room than may be", []byte{3, 0}, api.MaxBytes + 1, api.ErrArg},
		{"the least room", []byte{3, 0}, math.MinInt, api.ErrArg},
		{"the most room", []byte{3, 0}, math.MaxInt, api.ErrArg},
		{"no room that may be, of nothing", nil, -1, api.ErrArg},
		{"half a fixed block", []byte{3}, 10, api.ErrEnd},
		{"a stored block without bytes", []byte{1, 1, 0, 254, 255}, 10, api.ErrEnd},
		{"no last block", []byte{0, 0, 0, 255, 255}, 10, api.ErrEnd},
		{"kind 3", []byte{7}, 10, api.ErrForm},
		{"a stored block's number not turned over", []byte{1, 1, 0, 254, 254, 'a'}, 10, api.ErrForm},
		{"a copy from ahead of all", bits(1, 1, 1, 2, 0x40, 7, 0, 5, 0, 7), 10, api.ErrBack},
		{"the sign 286", bits(1, 1, 1, 2, 0x63, 8, 0, 8), 10, api.ErrRange},
		{"too many signs", bits(1, 1, 2, 2, 30, 5, 0, 5, 0, 4), 10, api.ErrMany},
		{"no code", bits(1, 1, 2, 2, 0, 5, 0, 5, 0, 4, 0, 12, 0, 8), 10, api.ErrCode},
		{"a stored byte without room", []byte{1, 1, 0, 254, 255, 'a'}, 0, api.ErrLong},
		{"a byte without room", []byte{0x4b, 4, 0}, 0, api.ErrLong},
	}
	for _, x := range wrong {
		wantError(t, x.name, x.b, x.most, x.want)
		if x.want != api.ErrEnd {
			wantError(t, x.name+", and bytes behind", append(slices.Clone(x.b), noise(10, 40)...), x.most, x.want)
		}
	}
}

// bits are bytes of numbers, each with how many bits it has; but words, of 7 bits and 8, have their highest bit first by hand.
func bits(pairs ...uint32) []byte {
	w := bitio.NewWriter()
	for i := 0; i+1 < len(pairs); i += 2 {
		w.Put(pairs[i], int(pairs[i+1]))
	}
	return w.Bytes()
}

// like asks for layer 6's answer, if all bytes were read.
func like(t *testing.T, b []byte, most int) {
	t.Helper()
	want, read, e := inflate.Inflate(b, most)
	switch {
	case e != api.OK:
		wantError(t, "layer 6's error", b, most, e)
	case read < len(b):
		wantError(t, "bytes that weren't read", b, most, api.ErrForm)
	default:
		wantInflated(t, "layer 6's answer", b, most, want)
	}
}

// P10.1, P5: whatever is inflated, the answer is layer 6's.
func TestInflateAny(t *testing.T) {
	random := rand.New(rand.NewSource(12))
	sources := [][]byte{deflate.Deflate(noise(13, 300)), deflate.Deflate(text(14, 3000)), deflate.Deflate(make([]byte, 700))}
	hand, _ := made(t)
	sources = append(sources, hand)
	for range 20000 {
		b := noise(random.Int63(), random.Intn(40))
		like(t, b, random.Intn(2000))
		b = slices.Clone(sources[random.Intn(len(sources))])
		for range 1 + random.Intn(3) {
			b[random.Intn(len(b))] ^= 1 << random.Intn(8)
		}
		like(t, b[:random.Intn(len(b)+1)], random.Intn(4000))
		like(t, b, []int{-1, 0, 300, 3000, api.MaxBytes, api.MaxBytes + 1}[random.Intn(6)])
	}
}

// told is how many bytes tokens stand for. Those that are none may tell any length: a negative one is a byte, and a great one is cut, so that all can be added up.
func told(l []api.Token) int {
	sum := 0
	for _, t := range l {
		sum += min(max(t.Len, 1), 1<<17)
	}
	return sum
}

// wantParts asks for parts of at least a token, all together, each of at most 65535 bytes; only a token that is none may be more, alone.
func wantParts(t *testing.T, what string, l []api.Token) []int {
	t.Helper()
	parts, at := deflate.Parts(l), 0
	for i, count := range parts {
		if count < 1 || count > len(l)-at {
			t.Fatalf("%s: part %d has %d of %d tokens", what, i, count, len(l)-at)
		}
		if part := l[at : at+count]; told(part) > 65535 && (count > 1 || match.Right(part[0])) {
			t.Errorf("%s: part %d, of %d tokens, stands for %d bytes", what, i, count, told(part))
		}
		at += count
	}
	if at != len(l) {
		t.Errorf("%s: %d tokens of %d", what, at, len(l))
	}
	return parts
}

// P10.1: none is a lone 0.
func TestPartsNone(t *testing.T) {
	for _, l := range [][]api.Token{nil, {}} {
		if parts := deflate.Parts(l); !slices.Equal(parts, []int{0}) {
			t.Error(parts)
		}
	}
}

// P10.1: rows about what one block has, of bytes, of copies of the greatest length, and of both. What a block can have isn't parted, what it can't is.
func TestPartsEdges(t *testing.T) {
	whole := map[string][]api.Token{
		"a byte":                        lones(1),
		"65535 bytes":                   lones(65535),
		"a copy":                        longest(1),
		"254 copies":                    longest(254),
		"254 copies, then 3 bytes":      append(longest(254), lones(3)...),
		"3 bytes, then 254 copies":      append(lones(3), longest(254)...),
		"65277 bytes, then a copy":      append(lones(65277), longest(1)...),
		"a copy, then 65277 bytes":      append(longest(1), lones(65277)...),
		"21845 copies of 3":             slices.Repeat([]api.Token{again(3, 9)}, 21845),
		"254 copies, and a copy of 3":   append(longest(254), again(3, 1)),
		"a copy of 3, and 65532 bytes":  append([]api.Token{again(3, 32768)}, lones(65532)...),
		"a copy of 3 ahead of the rest": append([]api.Token{again(3, 1)}, longest(254)...),
	}
	for name, l := range whole {
		if parts := wantParts(t, name, l); len(parts) != 1 {
			t.Error("parted:", name, parts)
		}
		for _, more := range [][]api.Token{{lone('b')}, {again(258, 1)}, {again(3, 2)}, longest(254)} {
			for _, all := range [][]api.Token{slices.Concat(l, more), slices.Concat(more, l)} {
				wantParts(t, name+", and more", all)
			}
		}
	}
}

// P10.1: long rows, also where one half of the tokens stands for far more than the other.
func TestPartsLong(t *testing.T) {
	for _, n := range edges() {
		if n > 0 {
			wantParts(t, fmt.Sprint(n, " bytes"), lones(n))
		}
	}
	for _, n := range []int{254, 255, 256, 508, 509, 510, 511, 1000, 65535, 65536, 70000} {
		wantParts(t, fmt.Sprint(n, " copies"), longest(n))
		wantParts(t, fmt.Sprint(n, " bytes, then copies"), append(lones(n), longest(n)...))
		wantParts(t, fmt.Sprint(n, " copies, then bytes"), append(longest(n), lones(n)...))
		wantParts(t, fmt.Sprint(n, " times a byte and a copy"), slices.Repeat([]api.Token{lone('c'), again(258, 1)}, n))
	}
	random := rand.New(rand.NewSource(15))
	for range 200 {
		l := []api.Token{}
		for range random.Intn(12) {
			n := random.Intn(1 << random.Intn(15))
			l = append(l, slices.Repeat([]api.Token{{Lit: 'd'}, again(3+random.Intn(256), 1+random.Intn(32768))}[random.Intn(2):][:1], n)...)
		}
		if len(l) > 0 {
			wantParts(t, "some", l)
		}
	}
}

// P10.1: there are never many small parts, also where one half of the tokens stands for far less than the other: each of them adds to what is deflated.
func TestPartsFew(t *testing.T) {
	for _, l := range [][]api.Token{lones(1 << 20), longest(3000), append(lones(1<<20), longest(300)...), append(lones(255<<8), longest(256)...)} {
		if parts := wantParts(t, "few", l); 5*len(parts) > 12*(told(l)/65535)+20 {
			t.Error("too many:", len(parts), "of", told(l))
		}
	}
}

// P10.1, P5: tokens that are none are parted, too, whatever they tell.
func TestPartsWrong(t *testing.T) {
	wrong := []api.Token{{Len: 1}, {Len: 2, Dist: 1}, {Dist: 5}, {Len: 3}, {Len: 3, Dist: -1}, {Len: -1}, {Len: math.MinInt, Dist: math.MinInt},
		{Len: 259, Dist: 1}, {Len: 65535, Dist: 1}, {Len: 65536, Dist: 1}, {Len: 1 << 32, Dist: 1}, {Len: math.MaxInt, Dist: math.MaxInt}, {Lit: 1, Len: 258, Dist: 1}}
	for _, x := range wrong {
		for _, n := range []int{1, 2, 3, 5, 300, 65536, 140000} {
			l := slices.Repeat([]api.Token{x}, n)
			wantParts(t, fmt.Sprint(n, " times ", x), l)
			wantParts(t, fmt.Sprint(n, " times ", x, ", then bytes"), append(l, lones(65535)...))
			wantParts(t, fmt.Sprint("bytes, then ", n, " times ", x), append(lones(65535), l...))
		}
	}
	random := rand.New(rand.NewSource(16))
	for range 300 {
		l := []api.Token{}
		for range 1 + random.Intn(2000) {
			l = append(l, wrong[random.Intn(len(wrong))], lone('e'), again(258, 1))
		}
		wantParts(t, "some that are none", l)
	}
}

// P10.1: parting changes no token, and no two answers share memory.
func TestPartsMemory(t *testing.T) {
	l := append(lones(70000), longest(700)...)
	kept := slices.Clone(l)
	first := deflate.Parts(l)
	second := deflate.Parts(l)
	want := slices.Clone(second)
	clear(first)
	if !slices.Equal(l, kept) || !slices.Equal(second, want) {
		t.Error("changed")
	}
}
