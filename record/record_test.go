package record_test

import (
	"archive/zip"
	"bytes"
	"encoding/binary"
	"hash/crc32"
	"io"
	"math"
	"math/rand"
	"slices"
	"strings"
	"testing"

	"packsaddle/api"
	"packsaddle/cursor"
	"packsaddle/record"
)

// little is a number's lowest bytes.
func little(v uint64, width int) []byte {
	return binary.LittleEndian.AppendUint64(nil, v)[:width]
}

// field is a number of a record's bytes.
type field struct {
	at, width int
	must      []int // what it may be; all, if none are told
}

// shape tells how the bytes of some kind look.
type shape struct {
	name   string
	size   int // without the Name
	magic  string
	fields []field // all but the number ahead
	write  func(r api.Record, behind bool) []byte
	read   func(c *cursor.Cursor) (api.Record, bool)
}

var nought, version, kinds = []int{0}, []int{20}, []int{0, 8}

// The end's three numbers stand in a record as if they were Sum, Packed and Size; so all kinds can be tried alike.
func shapes() []shape {
	return []shape{
		{"local", 30, "PK\x03\x04", []field{{4, 2, version}, {6, 2, kinds}, {8, 2, kinds}, {10, 2, nil}, {12, 2, nil}, {14, 4, nil}, {18, 4, nil}, {22, 4, nil}, {26, 2, nil}, {28, 2, nought}},
			record.Local, record.ReadLocal},
		{"behind", 16, "PK\x07\x08", []field{{4, 4, nil}, {8, 4, nil}, {12, 4, nil}},
			func(r api.Record, _ bool) []byte { return record.Behind(r) },
			func(c *cursor.Cursor) (api.Record, bool) { return record.ReadBehind(c), false }},
		{"central", 46, "PK\x01\x02", []field{{4, 2, version}, {6, 2, version}, {8, 2, kinds}, {10, 2, kinds}, {12, 2, nil}, {14, 2, nil}, {16, 4, nil}, {20, 4, nil}, {24, 4, nil},
			{28, 2, nil}, {30, 2, nought}, {32, 2, nought}, {34, 2, nought}, {36, 2, nought}, {38, 4, nought}, {42, 4, nil}},
			record.Central, record.ReadCentral},
		{"end", 22, "PK\x05\x06", []field{{4, 2, nought}, {6, 2, nought}, {8, 2, nil}, {10, 2, nil}, {12, 4, nil}, {16, 4, nil}, {20, 2, nought}},
			func(r api.Record, _ bool) []byte { return record.End(int(r.Sum), r.Packed, r.Size) },
			func(c *cursor.Cursor) (api.Record, bool) {
				many, size, from := record.ReadEnd(c)
				return api.Record{Sum: uint32(many), Packed: size, Size: from}, false
			}},
	}
}

// named tells whether a Name stands behind the numbers.
func (s shape) named() bool { return s.size >= 30 }

// some is a record with unlike numbers, for each kind what its bytes can tell of it.
func (s shape) some() api.Record {
	r := api.Record{Method: 8, Time: api.Moment{Date: 0x1234, Clock: 0x5678}, Sum: 0x9abcdef0, Packed: 0x81020304, Size: 0x05060708, Name: "a/b.class"}
	switch s.name {
	case "behind":
		return api.Record{Sum: r.Sum, Packed: r.Packed, Size: r.Size}
	case "end":
		return api.Record{Sum: 0xabcd, Packed: r.Packed, Size: r.Size}
	case "central":
		r.Offset = 0xf1f2f3f4
	}
	return r
}

func wantRead(t *testing.T, what string, s shape, c *cursor.Cursor, want api.Record, flag bool) {
	t.Helper()
	if r, behind := s.read(c); r != want || behind != flag || c.Err() != api.OK {
		t.Errorf("%s, %s: %+v, %v, error %d; want %+v, %v", s.name, what, r, behind, c.Err(), want, flag)
	}
}

// wantWrong asks for nothing but the error, and for the place where the cursor stands.
func wantWrong(t *testing.T, what string, s shape, c *cursor.Cursor, e api.Errno, at int) {
	t.Helper()
	if r, behind := s.read(c); r != (api.Record{}) || behind {
		t.Errorf("%s, %s: %+v, %v beside an error", s.name, what, r, behind)
	}
	if c.Err() != e || c.At() != at {
		t.Errorf("%s, %s: error %d at %d; want %d at %d", s.name, what, c.Err(), c.At(), e, at)
	}
}

// with is b with a number put in.
func with(b []byte, at, width int, v uint64) []byte {
	return slices.Concat(b[:at], little(v, width), b[at+width:])
}

func wantBytes(t *testing.T, what string, got []byte, want ...[]byte) {
	t.Helper()
	if all := slices.Concat(want...); !bytes.Equal(got, all) {
		t.Errorf("%s: %d bytes %x\nwant %d bytes %x", what, len(got), got[:min(len(got), 80)], len(all), all[:min(len(all), 80)])
	}
}

// P12.1: the bytes, one by one.
func TestBytes(t *testing.T) {
	r := api.Record{Method: 8, Time: api.Moment{Date: 0x5a21, Clock: 0xbf7d}, Sum: 0x01020304, Packed: 0x11121314, Size: 0x21222324, Name: "ab", Offset: 0x31323334}
	wantBytes(t, "local", record.Local(r, false), []byte{'P', 'K', 3, 4, 20, 0, 0, 0, 8, 0, 0x7d, 0xbf, 0x21, 0x5a,
		4, 3, 2, 1, 0x14, 0x13, 0x12, 0x11, 0x24, 0x23, 0x22, 0x21, 2, 0, 0, 0, 'a', 'b'})
	wantBytes(t, "local, flags", record.Local(r, true), []byte{'P', 'K', 3, 4, 20, 0, 8, 0, 8, 0, 0x7d, 0xbf, 0x21, 0x5a,
		0, 0, 0, 0, 0, 0, 0, 0, 0, 0, 0, 0, 2, 0, 0, 0, 'a', 'b'})
	wantBytes(t, "behind", record.Behind(r), []byte{'P', 'K', 7, 8, 4, 3, 2, 1, 0x14, 0x13, 0x12, 0x11, 0x24, 0x23, 0x22, 0x21})
	wantBytes(t, "central", record.Central(r, false), []byte{'P', 'K', 1, 2, 20, 0, 20, 0, 0, 0, 8, 0, 0x7d, 0xbf, 0x21, 0x5a,
		4, 3, 2, 1, 0x14, 0x13, 0x12, 0x11, 0x24, 0x23, 0x22, 0x21, 2, 0, 0, 0, 0, 0, 0, 0, 0, 0, 0, 0, 0, 0, 0x34, 0x33, 0x32, 0x31, 'a', 'b'})
	wantBytes(t, "central, flags", record.Central(r, true), []byte{'P', 'K', 1, 2, 20, 0, 20, 0, 8, 0, 8, 0, 0x7d, 0xbf, 0x21, 0x5a,
		4, 3, 2, 1, 0x14, 0x13, 0x12, 0x11, 0x24, 0x23, 0x22, 0x21, 2, 0, 0, 0, 0, 0, 0, 0, 0, 0, 0, 0, 0, 0, 0x34, 0x33, 0x32, 0x31, 'a', 'b'})
	wantBytes(t, "end", record.End(0x0102, 0x11121314, 0x21222324), []byte{'P', 'K', 5, 6, 0, 0, 0, 0, 2, 1, 2, 1, 0x14, 0x13, 0x12, 0x11, 0x24, 0x23, 0x22, 0x21, 0, 0})
	wantBytes(t, "end of nothing", record.End(0, 0, 0), []byte{'P', 'K', 5, 6, 0, 0, 0, 0, 0, 0, 0, 0, 0, 0, 0, 0, 0, 0, 0, 0, 0, 0})
}

// P12.1: the zero record's bytes.
func TestBytesZero(t *testing.T) {
	none := make([]byte, 22)
	wantBytes(t, "local", record.Local(api.Record{}, false), []byte("PK\x03\x04\x14\x00\x00\x00"), none)
	wantBytes(t, "local, flags", record.Local(api.Record{}, true), []byte("PK\x03\x04\x14\x00\x08\x00"), none)
	wantBytes(t, "behind", record.Behind(api.Record{}), []byte("PK\x07\x08"), none[:12])
	wantBytes(t, "central", record.Central(api.Record{}, false), []byte("PK\x01\x02\x14\x00\x14\x00\x00\x00"), none, none[:14])
	wantBytes(t, "central, flags", record.Central(api.Record{}, true), []byte("PK\x01\x02\x14\x00\x14\x00\x08\x00"), none, none[:14])
}

// P12.1: numbers go round, in each field; names of any length stand there whole.
func TestBytesRound(t *testing.T) {
	numbers := []int{-1, -2, math.MinInt, math.MaxInt, 1 << 32, 1<<32 + 5, 1<<40 - 7, 65536, 65535, 65544, -65528, 0}
	names := []string{"", "a", strings.Repeat("x", 255), strings.Repeat("y", 65535), strings.Repeat("z", 65536), strings.Repeat("w", 65536+3), "\x00\xff\u0416"}
	for i, n := range numbers {
		for j, name := range names {
			other := numbers[(i+j+1)%len(numbers)]
			r := api.Record{Method: n, Time: api.Moment{Date: uint16(n), Clock: uint16(other)}, Sum: uint32(n), Packed: other, Size: n, Name: name, Offset: other}
			times := slices.Concat(little(uint64(other), 2), little(uint64(n), 2))
			method, three := little(uint64(n), 2), slices.Concat(little(uint64(n), 4), little(uint64(other), 4), little(uint64(n), 4))
			length, ends := little(uint64(len(name)), 2), []byte(name)
			wantBytes(t, "local", record.Local(r, false), []byte("PK\x03\x04\x14\x00\x00\x00"), method, times, three, length, make([]byte, 2), ends)
			wantBytes(t, "local, flags", record.Local(r, true), []byte("PK\x03\x04\x14\x00\x08\x00"), method, times, make([]byte, 12), length, make([]byte, 2), ends)
			wantBytes(t, "behind", record.Behind(r), []byte("PK\x07\x08"), three)
			last := slices.Concat(length, make([]byte, 12), little(uint64(other), 4), ends)
			wantBytes(t, "central", record.Central(r, false), []byte("PK\x01\x02\x14\x00\x14\x00\x00\x00"), method, times, three, last)
			wantBytes(t, "central, flags", record.Central(r, true), []byte("PK\x01\x02\x14\x00\x14\x00\x08\x00"), method, times, three, last)
			many := little(uint64(n), 2)
			wantBytes(t, "end", record.End(n, other, i-j), []byte("PK\x05\x06\x00\x00\x00\x00"), many, many, little(uint64(other), 4), little(uint64(i-j), 4), make([]byte, 2))
		}
	}
}

// P12.1: what is read is as it was, the cursor stands just behind it, and what stands ahead and behind counts for nothing.
func TestRead(t *testing.T) {
	for _, s := range shapes() {
		for _, behind := range []bool{false, true} {
			r := s.some()
			b := s.write(r, behind)
			if s.name == "local" && behind {
				r.Sum, r.Packed, r.Size = 0, 0, 0
			}
			for _, after := range []string{"", "P", "PK\x03\x04 and more"} {
				c := cursor.New(slices.Concat([]byte("ahead"), b, []byte(after)))
				c.Take(5)
				wantRead(t, "all", s, c, r, behind && s.named())
				if c.At() != 5+len(b) || c.Left() != len(after) {
					t.Error(s.name, "stands at", c.At(), "of", len(b))
				}
			}
		}
	}
}

// P12.1: too few bytes are ErrEnd, at each place, whatever else is wrong with the numbers; then the cursor stands at the number that isn't there.
func TestReadEnds(t *testing.T) {
	for _, s := range shapes() {
		good := s.write(s.some(), false)
		wrong := with(good, 4, 2, 0xeeee)
		for n := range good {
			at := n
			if n < s.size {
				at = 0
				for _, f := range s.fields {
					if f.at <= n {
						at = f.at
					}
				}
			} else {
				at = s.size
			}
			wantWrong(t, "cut", s, cursor.New(good[:n]), api.ErrEnd, at)
			if n < s.size {
				wantWrong(t, "another number ahead, cut", s, cursor.New(with(good, 0, 4, 7)[:n]), api.ErrEnd, at)
				wantWrong(t, "a wrong number, cut", s, cursor.New(wrong[:n]), api.ErrEnd, at)
			} else {
				wantWrong(t, "another number ahead, no whole Name", s, cursor.New(with(good, 0, 4, 7)[:n]), api.ErrMagic, at)
				wantWrong(t, "a wrong number, no whole Name", s, cursor.New(wrong[:n]), api.ErrForm, at)
			}
		}
	}
}

// P12.1: a Name may be of none, and of as many bytes as there can be told, but no more than there are.
func TestReadNames(t *testing.T) {
	for _, s := range shapes() {
		if !s.named() {
			continue
		}
		for _, name := range []string{"", "a", "\x00\xff", strings.Repeat("n", 65535)} {
			r := s.some()
			r.Name = name
			b := s.write(r, false)
			wantRead(t, "its Name", s, cursor.New(b), r, false)
			if name != "" {
				wantWrong(t, "a byte less", s, cursor.New(b[:len(b)-1]), api.ErrEnd, s.size)
			}
			r.Name += "+" // of 65536 bytes the number goes round to 0
			c := cursor.New(s.write(r, false))
			got, _ := s.read(c)
			if want := (len(name) + 1) % 65536; len(got.Name) != want || c.At() != s.size+want {
				t.Error(s.name, "a byte more:", len(got.Name), c.At())
			}
		}
	}
}

// P12.1: each other number ahead is ErrMagic, also those of the other kinds; it comes ahead of ErrForm.
func TestReadMagic(t *testing.T) {
	for _, s := range shapes() {
		good := s.write(s.some(), false)
		if string(good[:4]) != s.magic {
			t.Error(s.name, "begins with", good[:4])
		}
		others := []uint64{0, 1, 0x504b0304, 0xffffffff}
		for bit := range 32 {
			others = append(others, uint64(binary.LittleEndian.Uint32(good))^1<<bit)
		}
		for _, other := range shapes() {
			if other.name != s.name {
				others = append(others, uint64(binary.LittleEndian.Uint32([]byte(other.magic))))
			}
		}
		for _, v := range others {
			wantWrong(t, "another number ahead", s, cursor.New(with(good, 0, 4, v)), api.ErrMagic, s.size)
			for _, f := range s.fields {
				if f.must != nil {
					wantWrong(t, "and a wrong number", s, cursor.New(with(with(good, 0, 4, v), f.at, f.width, 0xabab)), api.ErrMagic, s.size)
				}
			}
		}
	}
}

// P12.1: each number that must be one told and isn't is ErrForm, at all its values; flags and Methods may be 0 and 8.
func TestReadForm(t *testing.T) {
	for _, s := range shapes() {
		good := s.write(s.some(), false)
		for _, f := range s.fields {
			if f.must == nil {
				continue
			}
			for v := range 1 << 16 {
				b := with(good, f.at, 2, uint64(v))
				if !slices.Contains(f.must, v) {
					wantWrong(t, "a wrong number", s, cursor.New(b), api.ErrForm, s.size)
				}
			}
			for bit := range 8 * f.width {
				b := slices.Clone(good)
				b[f.at+bit/8] ^= 1 << (bit % 8)
				if bit != 3 || len(f.must) == 1 {
					wantWrong(t, "a bit turned", s, cursor.New(b), api.ErrForm, s.size)
				}
			}
		}
	}
}

// P12.1: numbers that may be any are read as they are.
func TestReadAny(t *testing.T) {
	locals, ends := shapes()[0], shapes()[3]
	for _, v := range []uint64{0, 1, 8, 20, 0x7f, 0x80, 0xff, 0x100, 0x7fff, 0x8000, 0xffff} {
		four := v<<16 | v
		good := locals.write(api.Record{Name: "n"}, false)
		wantRead(t, "Clock", locals, cursor.New(with(good, 10, 2, v)), api.Record{Time: api.Moment{Clock: uint16(v)}, Name: "n"}, false)
		wantRead(t, "Date", locals, cursor.New(with(good, 12, 2, v)), api.Record{Time: api.Moment{Date: uint16(v)}, Name: "n"}, false)
		wantRead(t, "Sum", locals, cursor.New(with(good, 14, 4, four)), api.Record{Sum: uint32(four), Name: "n"}, false)
		wantRead(t, "Packed", locals, cursor.New(with(good, 18, 4, four)), api.Record{Packed: int(four), Name: "n"}, false)
		wantRead(t, "Size", locals, cursor.New(with(good, 22, 4, four)), api.Record{Size: int(four), Name: "n"}, false)
		central := shapes()[2]
		wantRead(t, "Offset", central, cursor.New(with(central.write(api.Record{}, true), 42, 4, four)), api.Record{Offset: int(four)}, true)
		end := record.End(int(v), int(four), 9)
		wantRead(t, "end", ends, cursor.New(end), api.Record{Sum: uint32(v), Packed: int(four), Size: 9}, false)
	}
}

// P12.1: flags and Methods may be 0 and 8, each beside each.
func TestReadKinds(t *testing.T) {
	for _, flags := range kinds {
		for _, method := range kinds {
			for s, at := range map[int]int{0: 6, 2: 8} {
				b := with(shapes()[s].write(api.Record{}, false), at, 2, uint64(flags))
				wantRead(t, "flags and Method", shapes()[s], cursor.New(with(b, at+2, 2, uint64(method))), api.Record{Method: method}, flags == 8)
			}
		}
	}
}

// P12.1: the end tells twice how many entries there are, and both must be one.
func TestReadEndTwice(t *testing.T) {
	s := shapes()[3]
	for _, v := range []uint64{0, 1, 2, 257, 65535} {
		for _, w := range []uint64{0, 1, 2, 256, 257, 65279, 65535} {
			b := with(with(record.End(0, 3, 4), 8, 2, v), 10, 2, w)
			if v == w {
				wantRead(t, "as many", s, cursor.New(b), api.Record{Sum: uint32(v), Packed: 3, Size: 4}, false)
			} else {
				wantWrong(t, "not as many", s, cursor.New(b), api.ErrForm, 22)
			}
		}
	}
}

// P12.1: with the flags 8 a local record's three numbers must be 0, in each bit; a central one's may be any.
func TestReadFlagged(t *testing.T) {
	local, central := shapes()[0], shapes()[2]
	good := record.Local(api.Record{Method: 8, Name: "n"}, true)
	wantRead(t, "three noughts", local, cursor.New(good), api.Record{Method: 8, Name: "n"}, true)
	for bit := range 96 {
		b := slices.Clone(good)
		b[14+bit/8] ^= 1 << (bit % 8)
		wantWrong(t, "no noughts", local, cursor.New(b), api.ErrForm, 30)
		wantWrong(t, "no noughts, no Name", local, cursor.New(b[:30]), api.ErrForm, 30)
		wantWrong(t, "no noughts, another number ahead", local, cursor.New(with(b, 0, 4, 7)), api.ErrMagic, 30)
		wantWrong(t, "no noughts, cut", local, cursor.New(b[:29]), api.ErrEnd, 28)
		r := api.Record{Name: "n", Sum: uint32(bit), Packed: bit + 1, Size: bit + 2, Offset: bit + 3}
		wantRead(t, "no noughts", central, cursor.New(record.Central(r, true)), r, true)
	}
}

// P12.1: a cursor that has an error stays as it is, and keeps it; a nil one tells ErrArg.
func TestReadStuck(t *testing.T) {
	for _, s := range shapes() {
		good := s.write(s.some(), true)
		for _, e := range []api.Errno{api.ErrArg, api.ErrEnd, api.ErrMagic, api.ErrForm, api.ErrImage, -1} {
			for _, b := range [][]byte{nil, good[:10], good, slices.Concat([]byte("x"), good), with(good, 0, 4, 7)} {
				c := cursor.New(b)
				c.Fail(e)
				wantWrong(t, "with an error", s, c, e, 0)
				if c.Left() != len(b) {
					t.Error(s.name, "was read with an error:", c.Left())
				}
			}
		}
		c := cursor.New(slices.Concat(with(good, 0, 4, 7), good))
		wantWrong(t, "wrong", s, c, api.ErrMagic, s.size)
		wantWrong(t, "wrong, once more", s, c, api.ErrMagic, s.size)
		wantWrong(t, "a nil cursor", s, nil, api.ErrArg, 0)
	}
}

// P12.1: no two answers share memory.
func TestMemory(t *testing.T) {
	for _, s := range shapes() {
		first, second := s.write(s.some(), false), s.write(s.some(), false)
		kept := slices.Clone(second)
		clear(first)
		first = append(first, 1, 2, 3)
		if !bytes.Equal(second, kept) || !bytes.Equal(s.write(s.some(), false), kept) {
			t.Error("shared:", s.name)
		}
		r, _ := s.read(cursor.New(second))
		clear(second)
		if r != s.some() {
			t.Error("hangs on the bytes:", s.name)
		}
	}
}

// P12.1, P5: whatever is read, an answer has the bytes that were read, and what has none is told in the chapter's order.
func TestReadRandom(t *testing.T) {
	random := rand.New(rand.NewSource(1))
	for range 20000 {
		for _, s := range shapes() {
			b := s.write(s.some(), random.Intn(2) == 0)
			for range random.Intn(3) {
				b[random.Intn(len(b))] ^= 1 << random.Intn(8)
			}
			b = b[:len(b)-random.Intn(3)]
			c := cursor.New(b)
			r, behind := s.read(c)
			if want := wanted(s, b); c.Err() != want || want != api.OK && (r != (api.Record{}) || behind) {
				t.Fatalf("%s of %x: %+v, %v, error %d, want %d", s.name, b, r, behind, c.Err(), want)
			}
			if c.Err() == api.OK && !bytes.Equal(s.write(r, behind), b[:c.At()]) {
				t.Fatalf("%s of %x: %+v, %v", s.name, b, r, behind)
			}
		}
	}
}

// wanted is the error that the chapter tells of bytes.
func wanted(s shape, b []byte) api.Errno {
	if len(b) < s.size {
		return api.ErrEnd
	}
	if string(b[:4]) != s.magic {
		return api.ErrMagic
	}
	for _, f := range s.fields {
		number := int(binary.LittleEndian.Uint32(slices.Concat(b[f.at:f.at+f.width], make([]byte, 4))))
		if f.must != nil && !slices.Contains(f.must, number) {
			return api.ErrForm
		}
	}
	if s.name == "local" && b[6] == 8 && !bytes.Equal(b[14:26], make([]byte, 12)) || s.name == "end" && !bytes.Equal(b[8:10], b[10:12]) {
		return api.ErrForm
	}
	length := map[string]int{"local": 26, "central": 28}[s.name]
	if s.named() && len(b)-s.size < int(binary.LittleEndian.Uint16(b[length:])) {
		return api.ErrEnd
	}
	return api.OK
}

// anyRecord is some record that may be, with numbers of all sizes.
func anyRecord(random *rand.Rand) api.Record {
	number := func() int { return int(random.Uint32() >> random.Intn(32)) }
	name := make([]byte, random.Intn(1<<random.Intn(17)))
	random.Read(name)
	return api.Record{Method: 8 * random.Intn(2), Time: api.Moment{Date: uint16(random.Uint32()), Clock: uint16(random.Uint32())},
		Sum: random.Uint32(), Packed: number(), Size: number(), Name: string(name[:min(len(name), 65535)]), Offset: number()}
}

// P12.2: records of all kinds, one behind the other, are read as they were written.
func TestWrittenIsRead(t *testing.T) {
	random := rand.New(rand.NewSource(2))
	for range 300 {
		type one struct {
			s      shape
			r      api.Record
			behind bool
		}
		var all []one
		var b []byte
		for range 1 + random.Intn(12) {
			x := one{shapes()[random.Intn(4)], anyRecord(random), random.Intn(2) == 0}
			b = append(b, x.s.write(x.r, x.behind)...)
			all = append(all, x)
		}
		c := cursor.New(b)
		for _, x := range all {
			want := x.r
			switch x.s.name {
			case "local":
				want.Offset = 0
				if x.behind {
					want.Sum, want.Packed, want.Size = 0, 0, 0
				}
			case "behind":
				want = api.Record{Sum: want.Sum, Packed: want.Packed, Size: want.Size}
			case "end":
				want = api.Record{Sum: want.Sum & 65535, Packed: want.Packed, Size: want.Size}
			}
			wantRead(t, "written", x.s, c, want, x.behind && x.s.named())
		}
		if c.End() != api.OK {
			t.Fatal("not all was read:", c.Err(), c.Left())
		}
	}
}

// P12.1: the library's reader of archives reads what is written.
func TestLibrary(t *testing.T) {
	var b, central []byte
	texts := []string{"", "some text", strings.Repeat("long ", 1000)}
	for i, text := range texts {
		behind := i%2 == 1
		r := api.Record{Time: api.Moment{Date: 33, Clock: uint16(i)}, Sum: crc32.ChecksumIEEE([]byte(text)), Packed: len(text), Size: len(text), Name: string(rune('a' + i)), Offset: len(b)}
		b = slices.Concat(b, record.Local(r, behind), []byte(text))
		if behind {
			b = append(b, record.Behind(r)...)
		}
		central = append(central, record.Central(r, behind)...)
	}
	b = slices.Concat(b, central, record.End(len(texts), len(central), len(b)))
	z, err := zip.NewReader(bytes.NewReader(b), int64(len(b)))
	if err != nil || len(z.File) != len(texts) {
		t.Fatal(err)
	}
	for i, f := range z.File {
		r, err := f.Open()
		if err != nil {
			t.Fatal(err)
		}
		got, err := io.ReadAll(r)
		if err != nil || string(got) != texts[i] || f.Name != string(rune('a'+i)) || f.ModifiedDate != 33 || f.ModifiedTime != uint16(i) {
			t.Error(i, err, f.Name, len(got))
		}
	}
}
