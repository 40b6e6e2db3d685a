package match_test

import (
	"bytes"
	"math"
	"math/rand"
	"slices"
	"strings"
	"testing"

	"packsaddle/api"
	"packsaddle/match"
)

// lone is a byte's token.
func lone(b byte) api.Token { return api.Token{Lit: b} }

// again is a copy's token.
func again(n, back int) api.Token { return api.Token{Len: n, Dist: back} }

// lones are the tokens of bytes, one by one.
func lones(b []byte) []api.Token {
	out := []api.Token{}
	for _, x := range b {
		out = append(out, lone(x))
	}
	return out
}

// told is what right tokens stand for, by the chapter's words.
func told(l []api.Token) []byte {
	out := []byte{}
	for _, t := range l {
		if t.Len == 0 {
			out = append(out, t.Lit)
		}
		for range t.Len {
			out = append(out, out[len(out)-t.Dist])
		}
	}
	return out
}

// rowOf are n bytes in which no three stand twice: numbers of three bytes, only the first of which is below 128.
func rowOf(n int) []byte {
	out := make([]byte, 0, n+3)
	for i := 0; len(out) < n; i++ {
		out = append(out, byte(i>>14), byte(i>>7)&127|128, byte(i)&127|128)
	}
	return out[:n]
}

func wantBytes(t *testing.T, what string, l []api.Token, most int, want []byte) {
	t.Helper()
	if b, e := match.Expand(l, most); !bytes.Equal(b, want) || e != api.OK {
		t.Errorf("%s: %d bytes (%.40q), %d; want %d (%.40q)", what, len(b), b, e, len(want), want)
	}
}

func wantError(t *testing.T, what string, l []api.Token, most int, want api.Errno) {
	t.Helper()
	if b, e := match.Expand(l, most); len(b) != 0 || e != want {
		t.Errorf("%s: %d bytes, %d; want none, %d", what, len(b), e, want)
	}
}

func wantFound(t *testing.T, b []byte, at int, want api.Token) {
	t.Helper()
	if got := match.Find(b, at); got != want {
		t.Errorf("of %d bytes (%.40q) at %d: %v; want %v", len(b), b, at, got, want)
	}
}

// P7.1: every byte is a token, and none with a distance.
func TestRightBytes(t *testing.T) {
	for b := range 256 {
		if !match.Right(lone(byte(b))) {
			t.Error("no token:", b)
		}
		for _, back := range []int{math.MinInt, -1, 1, 2, api.MaxBack, math.MaxInt} {
			if match.Right(api.Token{Lit: byte(b), Dist: back}) {
				t.Error("a byte from back:", b, back)
			}
		}
	}
}

// P7.1: copies at, and just beyond, each bound of length, distance and byte.
func TestRightCopies(t *testing.T) {
	lens := []int{math.MinInt, math.MinInt32, -258, -3, -1, 1, 2, 3, 4, 100, 257, 258, 259, 260, 512, 65539, 1<<32 + 3, math.MaxInt}
	backs := []int{math.MinInt, -32768, -1, 0, 1, 2, 3, 258, 1000, 32767, 32768, 32769, 65537, 1<<32 + 1, math.MaxInt}
	for _, n := range lens {
		for _, back := range backs {
			want := n >= 3 && n <= 258 && back >= 1 && back <= 32768
			for _, b := range []byte{0, 1, 'a', 128, 255} {
				if got := match.Right(api.Token{Lit: b, Len: n, Dist: back}); got != (want && b == 0) {
					t.Error(b, n, back, got)
				}
			}
		}
	}
	for n := 3; n <= 258; n++ {
		if !match.Right(again(n, n)) || !match.Right(again(n, 32768)) || !match.Right(again(n, 1)) {
			t.Error("no token of length", n)
		}
	}
	for back := 1; back <= 32768; back++ {
		if !match.Right(again(3, back)) || !match.Right(again(258, back)) {
			t.Error("no token from back", back)
		}
	}
}

// P7.1: the chapter's example.
func TestExample(t *testing.T) {
	wantBytes(t, "six times a", []api.Token{lone('a'), again(5, 1)}, 10, []byte("aaaaaa"))
}

// P7.1: bytes and copies, one behind the other.
func TestExpand(t *testing.T) {
	all := rowOf(256)
	for i := range all {
		all[i] = byte(i)
	}
	for _, x := range []struct {
		what string
		l    []api.Token
		want string
	}{
		{"nothing", nil, ""},
		{"an empty row", []api.Token{}, ""},
		{"the byte 0", []api.Token{{}}, "\x00"},
		{"all bytes", lones(all), string(all)},
		{"a copy of all there is", append(lones([]byte("abc")), again(3, 3)), "abcabc"},
		{"a copy of the last three", append(lones([]byte("abcdef")), again(3, 3)), "abcdefdef"},
		{"a copy of the first three", append(lones([]byte("abcdef")), again(3, 6)), "abcdefabc"},
		{"a copy from the midst", append(lones([]byte("abcdef")), again(3, 5)), "abcdefbcd"},
		{"a copy that overlaps, from 2 back", append(lones([]byte("xab")), again(5, 2)), "xabababa"},
		{"a copy that overlaps, from 3 back", append(lones([]byte("abc")), again(4, 3)), "abcabca"},
		{"a copy of a copy", append(lones([]byte("ab")), again(3, 1), again(4, 5), lone('!'), again(3, 10)), "abbbbabbb!abb"},
	} {
		for _, most := range []int{len(x.want), len(x.want) + 1, api.MaxBytes} {
			wantBytes(t, x.what, x.l, most, []byte(x.want))
		}
	}
}

// P7.1: copies of all lengths, from each place of a short row.
func TestExpandOverlapped(t *testing.T) {
	row := []byte("abcdefg")
	for n := 3; n <= 258; n++ {
		for back := 1; back <= len(row); back++ {
			want := slices.Clone(row)
			for i := range n {
				want = append(want, row[len(row)-back+i%back])
			}
			l := append(lones(row), again(n, back))
			wantBytes(t, "overlapped", l, len(want), want)
			wantError(t, "overlapped, less room", l, len(want)-1, api.ErrLong)
		}
	}
}

// P7.1: copies from as far back as may be, and from one ahead of the first byte.
func TestExpandFar(t *testing.T) {
	row := rowOf(api.MaxBack + 300)
	for _, count := range []int{api.MaxBack - 1, api.MaxBack, api.MaxBack + 1, api.MaxBack + 300} {
		for _, n := range []int{3, 258} {
			l := append(lones(row[:count]), again(n, api.MaxBack))
			if count < api.MaxBack {
				wantError(t, "far", l, api.MaxBytes, api.ErrBack)
				continue
			}
			first := count - api.MaxBack
			wantBytes(t, "far", l, api.MaxBytes, slices.Concat(row[:count], row[first:first+n]))
		}
	}
}

// P7.1: most is 0 to MaxBytes; that is asked ahead of all tokens.
func TestExpandMost(t *testing.T) {
	for _, l := range [][]api.Token{nil, lones([]byte("a")), {again(2, 0)}, {again(3, 1)}} {
		for _, most := range []int{math.MinInt, -2, -1, api.MaxBytes + 1, api.MaxBytes + 2, 1 << 32, math.MaxInt} {
			wantError(t, "most", l, most, api.ErrArg)
		}
	}
	wantBytes(t, "nothing, no room", nil, 0, nil)
	wantError(t, "a byte, no room", lones([]byte("a")), 0, api.ErrLong)
}

// P7.1: as many bytes as MaxBytes, and one more.
func TestExpandMaxBytes(t *testing.T) {
	l := []api.Token{lone('z')}
	for range (api.MaxBytes - 1) / api.MaxMatch {
		l = append(l, again(api.MaxMatch, 1))
	}
	left := api.MaxBytes - len(told(l))
	l = append(l, again(left, 1))
	wantBytes(t, "MaxBytes", l, api.MaxBytes, bytes.Repeat([]byte("z"), api.MaxBytes))
	wantError(t, "a byte more than MaxBytes", append(l, lone('z')), api.MaxBytes, api.ErrLong)
	wantError(t, "MaxBytes, less room", l, api.MaxBytes-1, api.ErrLong)
}

// P7.1: one is no token, for each way in which it may be none.
func TestExpandRange(t *testing.T) {
	row := lones(rowOf(api.MaxBack + 2))
	for _, x := range []api.Token{
		{Dist: 1}, {Dist: -1}, {Lit: 'a', Dist: 3}, {Len: 1, Dist: 1}, {Len: 2, Dist: 1}, {Len: -3, Dist: 1}, {Len: 259, Dist: 1},
		{Len: 3}, {Len: 3, Dist: -1}, {Len: 3, Dist: api.MaxBack + 1}, {Lit: 1, Len: 3, Dist: 1},
		{Len: math.MaxInt, Dist: 1}, {Len: math.MinInt, Dist: math.MinInt}, {Len: 3, Dist: math.MaxInt}, {Len: math.MinInt},
	} {
		wantError(t, "behind bytes", append(slices.Clone(row), x), api.MaxBytes, api.ErrRange)
		wantError(t, "ahead of bytes", append([]api.Token{x}, row...), api.MaxBytes, api.ErrRange)
	}
}

// P7.1: a copy from ahead of the first byte, at each place of a short row.
func TestExpandBack(t *testing.T) {
	row := []byte("abcdefghij")
	for count := range len(row) + 1 {
		for back := 1; back <= len(row)+2; back++ {
			l := append(lones(row[:count]), again(3, back))
			if back > count {
				wantError(t, "from ahead", l, 100, api.ErrBack)
			} else {
				wantBytes(t, "from the first byte on", l, 100, told(l))
			}
		}
	}
}

// P7.1: with less room than they need, tokens are too long, whichever is the one too many.
func TestExpandLong(t *testing.T) {
	l := []api.Token{lone('a'), lone('b'), again(7, 2), lone('c'), again(3, 10), again(258, 4), lone('d')}
	want := told(l)
	for most := range len(want) {
		wantError(t, "too little room", l, most, api.ErrLong)
	}
	wantBytes(t, "just enough room", l, len(want), want)
}

// P7.1: of one token's errors that which is named first, of several tokens' the first one's.
func TestExpandFirstError(t *testing.T) {
	none, back, long := again(2, 9), again(3, 9), again(3, 2)
	for _, x := range []struct {
		what string
		l    []api.Token
		want api.Errno
	}{
		{"no token, from ahead", []api.Token{lone('a'), again(2, 2)}, api.ErrRange},
		{"no token, from ahead, too far", []api.Token{lone('a'), again(3, api.MaxBack+1)}, api.ErrRange},
		{"no token, no room", []api.Token{lone('a'), lone('b'), again(259, 1)}, api.ErrRange},
		{"from ahead, no room", []api.Token{lone('a'), lone('b'), again(258, 3)}, api.ErrBack},
		{"from ahead, then no token", []api.Token{lone('a'), back, none}, api.ErrBack},
		{"too long, then no token", []api.Token{lone('a'), lone('b'), long, none}, api.ErrLong},
		{"too long, then from ahead", []api.Token{lone('a'), lone('b'), long, again(3, 100)}, api.ErrLong},
		{"no token, then from ahead", []api.Token{lone('a'), none, back}, api.ErrRange},
		{"no token, then too long", []api.Token{lone('a'), none, lone('b'), lone('c'), lone('d')}, api.ErrRange},
		{"from ahead, then too long", []api.Token{lone('a'), back, lone('b'), lone('c'), lone('d')}, api.ErrBack},
		{"bytes too long, then no token", []api.Token{lone('a'), lone('b'), lone('c'), lone('d'), none}, api.ErrLong},
	} {
		wantError(t, x.what, x.l, 3, x.want)
	}
}

// P7.1: of a place that is none the zero token.
func TestFindNowhere(t *testing.T) {
	for _, b := range [][]byte{nil, {}, []byte("a"), []byte("abcabc"), bytes.Repeat([]byte("a"), 1000)} {
		for _, at := range []int{math.MinInt, -api.MaxBack, -3, -1, len(b), len(b) + 1, len(b) + 3, math.MaxInt} {
			wantFound(t, b, at, api.Token{})
		}
	}
}

// P7.1: a place's byte, or the longest copy; of several the one from the least far back.
func TestFind(t *testing.T) {
	for _, x := range []struct {
		b    string
		at   int
		want api.Token
	}{
		{"a", 0, lone('a')},
		{"\x00\x00\x00", 0, lone(0)},
		{"abcabc", 0, lone('a')},
		{"abcabc", 2, lone('c')},
		{"abcabc", 3, again(3, 3)},
		{"abcabc", 4, lone('b')},
		{"abcab", 3, lone('a')},
		{"abxaby", 3, lone('a')},
		{"aaaa", 1, again(3, 1)},
		{"aaaa", 2, lone('a')},
		{"aaaaaa", 1, again(5, 1)},
		{"aaaaaa", 2, again(4, 1)},
		{"xababababy", 3, again(6, 2)},
		{"xababababy", 4, again(5, 2)},
		{"abc1abc2abc3", 8, again(3, 4)},
		{"abcd1abc2abcd", 9, again(4, 9)},
		{"abcd1abcd2abc3abcd", 14, again(4, 9)},
		{"abcde1abcd2abcde3abcd4abcde", 22, again(5, 11)},
		{"abc1abcd2abc3abcd4abcd", 18, again(4, 5)},
	} {
		wantFound(t, []byte(x.b), x.at, x.want)
	}
}

// P7.1: copies of the least and the greatest length, of one less and one more than these, up to the last byte and ahead of another one.
func TestFindLengths(t *testing.T) {
	row := rowOf(300)
	for n := 1; n <= 300; n++ {
		for _, end := range []string{"", "!", "!!!!"} {
			b := slices.Concat(row, []byte("?"), row[:n], []byte(end))
			want := again(min(n, 258), 301)
			if n < 3 {
				want = lone(row[0])
			}
			wantFound(t, b, 301, want)
		}
	}
	for n := 3; n <= 300; n++ {
		wantFound(t, bytes.Repeat([]byte("a"), n+1), 1, again(min(n, 258), 1))
		wantFound(t, bytes.Repeat([]byte("abcde"), n), 5, again(min(5*n-5, 258), 5))
	}
}

// P7.1: of copies that are longer than the greatest length, the nearest one, too.
func TestFindBeyondLongest(t *testing.T) {
	row := rowOf(400)
	b := slices.Concat(row, []byte("?"), row[:258], []byte("?"), row)
	wantFound(t, b, 660, again(258, 259))
	b = slices.Concat(row, []byte("?"), row[:257], []byte("?"), row)
	wantFound(t, b, 659, again(258, 659))
}

// P7.1: a copy from as far back as may be, and none from one farther; a shorter one from nearer is found then.
func TestFindFar(t *testing.T) {
	dots := bytes.Repeat([]byte("."), 2*api.MaxBack)
	for _, n := range []int{3, 100, 258} {
		mark := rowOf(n)
		for _, back := range []int{api.MaxBack - 1, api.MaxBack, api.MaxBack + 1, 2 * api.MaxBack} {
			for _, first := range []int{0, 1, 1000} {
				b := slices.Concat(dots[:first], mark, dots[:back-n], mark)
				want := again(n, back)
				if back > api.MaxBack {
					want = lone(mark[0])
				}
				wantFound(t, b, first+back, want)
			}
		}
	}
	for back := api.MaxBack - 1; back <= api.MaxBack+1; back++ {
		b := slices.Concat([]byte("abcdef"), dots[:back-6-15], []byte("abcd?"), dots[:10], []byte("abcdef"))
		want := again(6, back)
		if back > api.MaxBack {
			want = again(4, 15)
		}
		wantFound(t, b, back, want)
	}
}

// found is what Find must answer, by the chapter's words.
func found(b []byte, at int) api.Token {
	best := lone(b[at])
	for back := 1; back <= min(at, api.MaxBack); back++ {
		n := 0
		for n < api.MaxMatch && at+n < len(b) && b[at+n-back] == b[at+n] {
			n++
		}
		if n >= api.MinMatch && n > best.Len {
			best = again(n, back)
		}
	}
	return best
}

// P7.1: each place of many rows.
func TestFindEverywhere(t *testing.T) {
	random := rand.New(rand.NewSource(5))
	for range 1500 {
		b := someBytes(random, random.Intn(400))
		for at := range b {
			wantFound(t, b, at, found(b, at))
		}
	}
	for range 8 {
		b := someBytes(random, 80000)
		for range 100 {
			at := random.Intn(len(b))
			wantFound(t, b, at, found(b, at))
		}
	}
}

// someBytes are of few or many letters, with copies among them.
func someBytes(random *rand.Rand, size int) []byte {
	letters, longest := 1+random.Intn(1<<random.Intn(9)), 1+random.Intn(1<<random.Intn(10))
	b := []byte{}
	for len(b) < size {
		n := random.Intn(longest + 1)
		if len(b) > 0 && random.Intn(2) == 0 {
			back := 1 + random.Intn(min(len(b), 1<<random.Intn(17)))
			for range n {
				b = append(b, b[len(b)-back])
			}
			continue
		}
		for range n {
			b = append(b, byte(random.Intn(letters)))
		}
	}
	return b[:size]
}

// wantTold holds that tokens are right, the same each time, and stand for the bytes; there are no more of them than bytes.
func wantTold(t *testing.T, what string, b []byte) []api.Token {
	t.Helper()
	kept := slices.Clone(b)
	l := match.Tokens(b)
	for i, x := range l {
		if !match.Right(x) {
			t.Fatalf("%s: no token: %v, number %d", what, x, i)
		}
	}
	if !bytes.Equal(b, kept) {
		t.Errorf("%s: the bytes changed", what)
	}
	wantBytes(t, what, l, len(b), kept)
	if !bytes.Equal(told(l), kept) || len(l) > len(b) {
		t.Errorf("%s: %d tokens stand for other bytes than the %d", what, len(l), len(b))
	}
	other := append(make([]byte, 0, 2*len(b)+9), b...)
	if !slices.Equal(match.Tokens(other), l) {
		t.Errorf("%s: the same bytes have other tokens", what)
	}
	return l
}

// P7.1, P7.2: a row told again and again has at most as many tokens as the chapter says.
func TestTokensAgain(t *testing.T) {
	random := rand.New(rand.NewSource(6))
	check := func(row []byte, times int) {
		t.Helper()
		b := bytes.Repeat(row, times)
		most := len(row) + 2 + 2*len(b)/api.MaxMatch
		if l := wantTold(t, "again", b); len(l) > most {
			t.Errorf("%q, %d times: %d tokens, at most %d", row, times, len(l), most)
		}
	}
	for size := range 61 {
		for times := 1; times <= 30; times++ {
			check(rowOf(size), times)
			check(bytes.Repeat([]byte("a"), size), times)
			check(someBytes(random, size), times)
			check([]byte(strings.Repeat("a", size/2)+strings.Repeat("b", size-size/2)), times)
			if size > 0 {
				check(append(bytes.Repeat([]byte{0}, size-1), 1), times)
			}
		}
	}
}

// P7.2: rows of few bytes, all of them of up to three letters.
func TestTokensShort(t *testing.T) {
	wantTold(t, "nil", nil)
	wantTold(t, "empty", []byte{})
	for letters, longest := range map[int]int{1: 600, 2: 11, 3: 7, 256: 1} {
		rows := [][]byte{nil}
		for range longest {
			longer := [][]byte{}
			for _, row := range rows {
				for x := range letters {
					longer = append(longer, append(slices.Clone(row), byte(x)))
				}
			}
			for _, row := range longer {
				wantTold(t, "short", row)
			}
			rows = longer
		}
	}
}

// P7.2: rows of many shapes.
func TestTokensShapes(t *testing.T) {
	random := rand.New(rand.NewSource(7))
	for range 2000 {
		wantTold(t, "some bytes", someBytes(random, random.Intn(1<<random.Intn(12))))
	}
	for range 12 {
		wantTold(t, "many bytes", someBytes(random, 50000+random.Intn(250000)))
	}
	for _, text := range []string{"packsaddle ", "ab", "abcabd", "the quick brown fox jumps over the lazy dog"} {
		for _, times := range []int{1, 2, 3, 100, 20000} {
			wantTold(t, text, []byte(strings.Repeat(text, times)))
		}
	}
}

// P7.2: what comes again at about MaxBack back; no token is from farther.
func TestTokensFar(t *testing.T) {
	random := rand.New(rand.NewSource(8))
	for _, back := range []int{api.MaxBack - 2, api.MaxBack - 1, api.MaxBack, api.MaxBack + 1, api.MaxBack + 2, 2 * api.MaxBack, 2*api.MaxBack + 1} {
		row := make([]byte, back)
		random.Read(row)
		wantTold(t, "random, again", bytes.Repeat(row, 4))
		wantTold(t, "numbers, again", bytes.Repeat(rowOf(back), 4))
		clear(row[3:])
		wantTold(t, "three bytes, then noughts, again", bytes.Repeat(row, 4))
	}
}

// P7.2: as many bytes as MaxBytes, and more, of which none, some or all come again. (More than MaxBytes aren't expanded by one call.)
func TestTokensLong(t *testing.T) {
	wantTold(t, "noughts", make([]byte, api.MaxBytes))
	if l := match.Tokens(make([]byte, api.MaxBytes+1000)); !bytes.Equal(told(l), make([]byte, api.MaxBytes+1000)) {
		t.Error("noughts, more than MaxBytes")
	}
	b := make([]byte, 1<<21)
	rand.New(rand.NewSource(9)).Read(b)
	wantTold(t, "random", b)
	for i := range b {
		b[i] &= 1
	}
	wantTold(t, "two letters", b)
}

// P7.1: what is answered is new memory, and nothing that is handed in changes.
func TestMemory(t *testing.T) {
	l := []api.Token{lone('a'), lone('b'), again(4, 2)}
	kept := slices.Clone(l)
	b, _ := match.Expand(l, 10)
	if !slices.Equal(l, kept) {
		t.Error("the tokens changed:", l)
	}
	clear(b)
	wantBytes(t, "again", l, 10, []byte("ababab"))
	row := []byte("abcabcabc")
	tokens := match.Tokens(row)
	clear(tokens)
	match.Find(row, 3)
	if string(row) != "abcabcabc" {
		t.Error("the bytes changed:", row)
	}
	tokens = match.Tokens(row)
	clear(row)
	if string(told(tokens)) != "abcabcabc" {
		t.Error("the tokens changed with the bytes:", tokens)
	}
}
