package pool_test

import (
	"math/rand"
	"slices"
	"strings"
	"testing"

	"packsaddle/api"
	"packsaddle/cursor"
	"packsaddle/pool"
)

// whole has a constant of each tag, and all of them lead where they should.
func whole() []api.Raw {
	return []api.Raw{
		{},
		{Tag: api.TagText, Text: "a"},
		{Tag: api.TagClass, A: 1},
		{Tag: api.TagLong, Bits: 1<<63 + 5},
		{},
		{Tag: api.TagText, Text: "\xc0\x80\xe1\x88\xb4"},
		{Tag: api.TagPair, A: 1, B: 5},
		{Tag: api.TagField, A: 2, B: 6},
		{Tag: api.TagMethod, A: 2, B: 6},
		{Tag: api.TagInterface, A: 2, B: 6},
		{Tag: api.TagString, A: 5},
		{Tag: api.TagInt, Bits: 1<<31 + 2},
		{Tag: api.TagFloat, Bits: 3},
		{Tag: api.TagText},
		{Tag: api.TagDouble, Bits: 0x0123456789abcdef},
		{},
	}
}

// wholeBytes are its.
func wholeBytes() []byte {
	return []byte{
		0, 16,
		1, 0, 1, 'a',
		7, 0, 1,
		5, 128, 0, 0, 0, 0, 0, 0, 5,
		1, 0, 5, 0xc0, 0x80, 0xe1, 0x88, 0xb4,
		12, 0, 1, 0, 5,
		9, 0, 2, 0, 6,
		10, 0, 2, 0, 6,
		11, 0, 2, 0, 6,
		8, 0, 5,
		3, 128, 0, 0, 2,
		4, 0, 0, 0, 3,
		1, 0, 0,
		6, 1, 0x23, 0x45, 0x67, 0x89, 0xab, 0xcd, 0xef,
	}
}

func read(b []byte) ([]api.Raw, api.Errno) {
	c := cursor.New(b)
	l := pool.Read(c)
	return l, c.Err()
}

// P16.1: a constant of each tag, by its bytes, both ways.
func TestEachTag(t *testing.T) {
	l, e := read(wholeBytes())
	if e != api.OK || !slices.Equal(l, whole()) {
		t.Errorf("read %v, error %d", l, e)
	}
	if b := pool.Bytes(whole()); !slices.Equal(b, wholeBytes()) {
		t.Errorf("bytes %v", b)
	}
	if !pool.Holds(whole()) {
		t.Error("it doesn't hold")
	}
	l, e = read([]byte{0, 1})
	if e != api.OK || len(l) != 1 || l[0] != (api.Raw{}) {
		t.Errorf("number 0 alone: %v, error %d", l, e)
	}
	if b := pool.Bytes(make([]api.Raw, 1)); !slices.Equal(b, []byte{0, 1}) {
		t.Errorf("number 0 alone: bytes %v", b)
	}
}

// P16.1: what is wrong with bytes, the first of it.
func TestReadWrong(t *testing.T) {
	for _, w := range []struct {
		e api.Errno
		b []byte
	}{
		{api.ErrEnd, nil}, {api.ErrEnd, []byte{0}}, {api.ErrEnd, []byte{0, 2}}, {api.ErrEnd, []byte{255, 255}},
		{api.ErrForm, []byte{0, 0}}, {api.ErrForm, []byte{0, 0, 1}},
		{api.ErrKind, []byte{0, 2, 0}}, {api.ErrKind, []byte{0, 2, 2, 0, 0}}, {api.ErrKind, []byte{0, 2, 13, 0, 0}}, {api.ErrKind, []byte{0, 2, 255}},
		{api.ErrEnd, []byte{0, 2, 1}}, {api.ErrEnd, []byte{0, 2, 1, 0}}, {api.ErrEnd, []byte{0, 2, 1, 0, 1}}, {api.ErrEnd, []byte{0, 2, 1, 0, 2, 0}},
		{api.ErrForm, []byte{0, 2, 1, 0, 1, 0}}, {api.ErrForm, []byte{0, 3, 1, 0, 1, 128}}, {api.ErrForm, []byte{0, 3, 1, 0, 1, 128, 99}},
		{api.ErrKind, []byte{0, 3, 99, 1, 0, 1, 128}},
		{api.ErrEnd, []byte{0, 3, 3, 1, 2, 3}}, {api.ErrEnd, []byte{0, 2, 4, 1, 2, 3}},
		{api.ErrEnd, []byte{0, 2, 5, 1, 2, 3, 4, 5, 6, 7}}, {api.ErrForm, []byte{0, 2, 5, 1, 2, 3, 4, 5, 6, 7, 8}},
		{api.ErrEnd, []byte{0, 2, 6, 1, 2, 3, 4, 5, 6, 7}}, {api.ErrForm, []byte{0, 2, 6, 1, 2, 3, 4, 5, 6, 7, 8, 9}},
		{api.OK, []byte{0, 3, 6, 1, 2, 3, 4, 5, 6, 7, 8}}, {api.ErrEnd, []byte{0, 4, 6, 1, 2, 3, 4, 5, 6, 7, 8}},
		{api.ErrEnd, []byte{0, 2, 7, 1}}, {api.ErrEnd, []byte{0, 2, 8, 1}},
		{api.ErrEnd, []byte{0, 2, 9, 1, 2, 3}}, {api.ErrEnd, []byte{0, 2, 12, 1, 2, 3}}, {api.ErrEnd, []byte{0, 2, 12, 1, 2}},
		{api.OK, []byte{0, 2, 12, 255, 255, 255, 254}},
	} {
		l, e := read(w.b)
		if e != w.e || (e != api.OK) != (l == nil) {
			t.Errorf("%v: %v, error %d; want error %d", w.b, l, e, w.e)
		}
		wantRead(t, w.b)
	}
}

// P16.1: a pool cut at each byte, and with each of its bytes another one.
func TestReadTurned(t *testing.T) {
	b := wholeBytes()
	for n := range b {
		if l, e := read(b[:n]); e != api.ErrEnd || l != nil {
			t.Errorf("cut at %d: %v, error %d", n, l, e)
		}
		wantRead(t, b[:n])
	}
	for i := range b {
		for x := range 256 {
			turned := slices.Clone(b)
			turned[i] = byte(x)
			wantRead(t, turned)
			wantRead(t, append(turned, 1, 0, 1, 'z', 3, 0, 0, 0))
		}
	}
}

// P16.1: all short rows of bytes about which something hangs.
func TestReadShort(t *testing.T) {
	rows := [][]byte{{}}
	for range 5 {
		var next [][]byte
		for _, row := range rows {
			for _, x := range []byte{0, 1, 2, 3, 5, 6, 7, 9, 12, 13, 128} {
				next = append(next, append(slices.Clone(row), x))
			}
		}
		for _, row := range next {
			wantRead(t, append([]byte{0, 2}, row...))
			wantRead(t, append([]byte{0, 3}, row...))
		}
		rows = next
	}
}

// P16.1: a cursor with an error keeps it, and nothing is read.
func TestReadCursor(t *testing.T) {
	if l := pool.Read(nil); l != nil {
		t.Errorf("a nil cursor: %v", l)
	}
	c := cursor.New(wholeBytes())
	c.Fail(api.ErrImage)
	if l := pool.Read(c); l != nil || c.Err() != api.ErrImage || c.At() != 0 {
		t.Errorf("%v, error %d, at %d", l, c.Err(), c.At())
	}
	c = cursor.New([]byte{0, 2, 3, 0, 0, 0, 9, 0, 1, 0, 0, 'x'})
	if l := pool.Read(c); len(l) != 2 || l[1].Bits != 9 || c.At() != 7 {
		t.Errorf("the first pool: %v, at %d", l, c.At())
	}
	if l := pool.Read(c); len(l) != 1 || c.At() != 9 {
		t.Errorf("the second one: %v, at %d", l, c.At())
	}
	if l := pool.Read(c); l != nil || c.Err() != api.ErrForm {
		t.Errorf("the third one: %v, error %d", l, c.Err())
	}
}

// P16.1: numbers go round; constants of other tags and number 0 are passed over, but they have their numbers.
func TestBytesRound(t *testing.T) {
	for _, w := range []struct {
		l []api.Raw
		b []byte
	}{
		{nil, []byte{0, 0}},
		{[]api.Raw{{Tag: api.TagText, Text: "x"}}, []byte{0, 1}},
		{[]api.Raw{{Tag: api.TagInt}, {Tag: api.TagInt}}, []byte{0, 2, 3, 0, 0, 0, 0}},
		{[]api.Raw{{}, {Text: "x", A: 1}, {Tag: 2}, {Tag: 13, A: 9}, {Tag: -1}, {Tag: 257, Text: "x"}}, []byte{0, 6}},
		{[]api.Raw{{}, {Tag: 99}, {Tag: api.TagClass, A: 7, B: 8, Bits: 9, Text: "x"}}, []byte{0, 3, 7, 0, 7}},
		{[]api.Raw{{}, {Tag: api.TagInt, Bits: 1<<32 + 7}, {Tag: api.TagFloat, Bits: 1<<64 - 1}}, []byte{0, 3, 3, 0, 0, 0, 7, 4, 255, 255, 255, 255}},
		{[]api.Raw{{}, {Tag: api.TagClass, A: -1}, {Tag: api.TagString, A: 65536 + 258}}, []byte{0, 3, 7, 255, 255, 8, 1, 2}},
		{[]api.Raw{{}, {Tag: api.TagPair, A: -2, B: 65536}, {Tag: api.TagField, A: 1 << 40, B: 1<<40 - 1}}, []byte{0, 3, 12, 255, 254, 0, 0, 9, 0, 0, 255, 255}},
		{[]api.Raw{{}, {Tag: api.TagLong, Bits: 9}, {Tag: api.TagText, Text: "\xff"}}, []byte{0, 3, 5, 0, 0, 0, 0, 0, 0, 0, 9, 1, 0, 1, 255}},
	} {
		if got := pool.Bytes(w.l); !slices.Equal(got, w.b) {
			t.Errorf("%v: %v, want %v", w.l, got, w.b)
		}
		wantPool(t, w.l)
	}
}

// P16.1, P16.2: the greatest pools and texts, and those beyond.
func TestLong(t *testing.T) {
	for _, n := range []int{2, 255, 256, 65534, 65535, 65536, 65537, 70000} {
		l := make([]api.Raw, n)
		for i := 1; i < n; i++ {
			l[i] = api.Raw{Tag: api.TagClass, A: i}
		}
		wantLong(t, l, n < 65536)
	}
	for _, n := range []int{255, 256, 65534, 65535, 65536, 65537} {
		text := api.Raw{Tag: api.TagText, Text: strings.Repeat("x", n)}
		wantLong(t, []api.Raw{{}, text, {Tag: api.TagClass, A: 1}}, n < 65536)
	}
}

func wantLong(t *testing.T, l []api.Raw, may bool) {
	t.Helper()
	b := pool.Bytes(l)
	if !slices.Equal(b, modelBytes(l)) {
		t.Errorf("%d numbers: other bytes", len(l))
	}
	wantRead(t, b)
	if got, e := read(b); may && (e != api.OK || !slices.Equal(got, l)) {
		t.Errorf("%d numbers: error %d", len(l), e)
	}
}

// P16.2: pools whose constants lead anywhere, or to what they should not, are read as they were.
func TestBytesRead(t *testing.T) {
	r := rand.New(rand.NewSource(16))
	texts := []string{"", "a", "java/lang/Object", "\xc0\x80", "\xed\xa0\x80", strings.Repeat("\xe1\x88\xb4", 1000)}
	for range 3000 {
		l := []api.Raw{{}}
		for range r.Intn(12) {
			k := api.Raw{Tag: []int{1, 3, 4, 5, 6, 7, 8, 9, 10, 11, 12}[r.Intn(11)]}
			switch {
			case k.Tag == api.TagText:
				k.Text = texts[r.Intn(len(texts))]
			case k.Tag < 5:
				k.Bits = uint64(r.Uint32())
			case k.Tag < 7:
				k.Bits = r.Uint64()
			default:
				k.A = r.Intn(65536)
				if k.Tag > 8 {
					k.B = r.Intn(65536)
				}
			}
			l = append(l, k)
			if pool.Wide(k.Tag) {
				l = append(l, api.Raw{})
			}
		}
		got, e := read(pool.Bytes(l))
		if e != api.OK || !slices.Equal(got, l) {
			t.Fatalf("%v: %v, error %d", short(l), short(got), e)
		}
	}
}

// P16.1: an answer is new memory, and what was handed in stays.
func TestMemory(t *testing.T) {
	l := whole()
	b := pool.Bytes(l)
	c := cursor.New(b)
	got := pool.Read(c)
	clear(b)
	if !slices.Equal(got, whole()) || !slices.Equal(l, whole()) {
		t.Error("what was read, or handed in, hangs on the bytes")
	}
	clear(got)
	if b := pool.Bytes(l); !slices.Equal(b, wholeBytes()) {
		t.Error("the bytes hang on those answered ahead")
	}
}
