package zip_test

import (
	"bytes"
	"compress/flate"
	"encoding/binary"
	"hash/crc32"
	"slices"
	"strings"
	"testing"
	"time"
	"unicode/utf8"

	"packsaddle/api"
	"packsaddle/deflate"
	"packsaddle/zip"
)

// head is what a record says of an entry, each number by itself, so that each may be wrong by itself.
type head struct {
	magic                      uint32
	version, flags, method     uint16
	clock, date                uint16
	sum, packed, size          uint32
	length, nought             uint16
	name                       string
	made, a, b, c, fourNoughts uint32 // of a central record: the other version, and its noughts
	shift                      uint32 // of a central record: how far its Offset is beside the right one
}

// part is an entry's bytes.
type part struct {
	gap            string // ahead of its local record
	local, central head
	data           string
	behind         []uint32 // the numbers behind the data, if there are any
}

// whole is an archive's bytes.
type whole struct {
	parts        []part
	gap, lastGap string // ahead of the central records, and of the end
	end          [8]int // what is added to each of the end's numbers
	tail         string
}

func numbers(b []byte, width int, n ...uint32) []byte {
	for _, x := range n {
		b = append(b, binary.LittleEndian.AppendUint32(nil, x)[:width]...)
	}
	return b
}

func (h head) shared(b []byte) []byte {
	b = numbers(b, 2, uint32(h.flags), uint32(h.method), uint32(h.clock), uint32(h.date))
	b = numbers(b, 4, h.sum, h.packed, h.size)
	return numbers(b, 2, uint32(h.length), uint32(h.nought))
}

// bytes lays the archive.
func (w whole) bytes() []byte {
	var body, central []byte
	for _, p := range w.parts {
		body = append(body, p.gap...)
		at := uint32(len(body))
		body = p.local.shared(numbers(numbers(body, 4, p.local.magic), 2, uint32(p.local.version)))
		body = append(append(body, p.local.name...), p.data...)
		body = numbers(body, 4, p.behind...)
		c := p.central
		central = c.shared(numbers(numbers(central, 4, c.magic), 2, c.made, uint32(c.version)))
		central = numbers(numbers(central, 2, c.a, c.b, c.c), 4, c.fourNoughts, at+c.shift)
		central = append(central, c.name...)
	}
	body = append(body, w.gap...)
	n := []int{0x06054b50, 0, 0, len(w.parts), len(w.parts), len(central), len(body), 0}
	end := []byte{}
	for i, width := range []int{4, 2, 2, 2, 2, 4, 4, 2} {
		end = numbers(end, width, uint32(n[i]+w.end[i]))
	}
	return slices.Concat(body, central, []byte(w.lastGap), end, []byte(w.tail))
}

// writer is made once, for making it is most of the work.
var writer, _ = flate.NewWriter(nil, 9)

// deflated is by the library, so that it hangs on nothing of the program.
func deflated(data string) string {
	var b bytes.Buffer
	writer.Reset(&b)
	writer.Write([]byte(data))
	writer.Close()
	return b.String()
}

// kind is how an entry is written.
type kind struct {
	method uint16
	flag   bool
}

func allKinds() []kind { return []kind{{0, false}, {0, true}, {8, false}, {8, true}} }

// right is an entry as it should be.
func right(name, data string, k kind) part {
	packed := data
	if k.method == 8 {
		packed = deflated(data)
	}
	return rightPacked(name, data, packed, k)
}

// rightPacked is an entry with some data that stand for its bytes.
func rightPacked(name, data, packed string, k kind) part {
	h := head{magic: 0x04034b50, version: 20, method: k.method, clock: 0x6c43, date: 0x5d21, sum: crc32.ChecksumIEEE([]byte(data)), packed: uint32(len(packed)), size: uint32(len(data)), length: uint16(len(name)), name: name}
	p := part{data: packed}
	if k.flag {
		h.flags = 8
		p.behind = []uint32{0x08074b50, h.sum, h.packed, h.size}
	}
	p.local, p.central = h, h
	p.central.magic, p.central.made = 0x02014b50, 20
	if k.flag {
		p.local.sum, p.local.packed, p.local.size = 0, 0, 0
	}
	return p
}

// say makes all records of an entry say the same numbers.
func (p *part) say(sum, packed, size uint32) {
	p.central.sum, p.central.packed, p.central.size = sum, packed, size
	if p.behind == nil {
		p.local.sum, p.local.packed, p.local.size = sum, packed, size
	} else {
		p.behind = []uint32{p.behind[0], sum, packed, size}
	}
}

// named gives an entry another name.
func (p *part) named(name string) {
	p.local.name, p.central.name = name, name
	p.local.length, p.central.length = uint16(len(name)), uint16(len(name))
}

// timed gives an entry another moment.
func (p *part) timed(m api.Moment) {
	p.local.date, p.central.date, p.local.clock, p.central.clock = m.Date, m.Date, m.Clock, m.Clock
}

// roomy are limits that let all through.
func roomy() api.Limits { return api.Limits{Entries: 65535, Bytes: 1 << 24, Whole: 1 << 24} }

// same asks whether two rows of entries are one.
func same(a, b []api.Entry) bool {
	return slices.EqualFunc(a, b, func(x, y api.Entry) bool {
		return x.Name == y.Name && x.Time == y.Time && bytes.Equal(x.Data, y.Data)
	})
}

// wantRead asks that just these entries are read.
func wantRead(t *testing.T, what string, b []byte, l api.Limits, want []api.Entry) {
	t.Helper()
	kept := slices.Clone(b)
	got, e := zip.Read(b, l)
	if e != api.OK || !same(got, want) {
		t.Errorf("%s: %d entries, error %d; want %d entries", what, len(got), e, len(want))
	}
	if !bytes.Equal(b, kept) {
		t.Errorf("%s: what was handed in was changed", what)
	}
}

// wantWrong asks that nothing is read, for that reason.
func wantWrong(t *testing.T, what string, b []byte, l api.Limits, want api.Errno) {
	t.Helper()
	if got, e := zip.Read(b, l); e != want || len(got) != 0 {
		t.Errorf("%s: %d entries, error %d; want %d", what, len(got), e, want)
	}
}

// wantAsTold asks for what the chapter tells of these bytes.
func wantAsTold(t *testing.T, what string, b []byte, l api.Limits) api.Errno {
	t.Helper()
	want, e := told(b, l)
	if e != api.OK {
		wantWrong(t, what, b, l, e)
	} else {
		wantRead(t, what, b, l, want)
	}
	return e
}

func two(b []byte, at int) int  { return int(binary.LittleEndian.Uint16(b[at:])) }
func four(b []byte, at int) int { return int(binary.LittleEndian.Uint32(b[at:])) }

// told is what Read should answer, by the chapter's words and places of bytes alone.
func told(b []byte, l api.Limits) ([]api.Entry, api.Errno) {
	if min(l.Entries, l.Bytes, l.Whole) < 0 || l.Entries > 65535 || max(l.Bytes, l.Whole) > 16777216 {
		return nil, api.ErrArg
	}
	if len(b) > l.Whole {
		return nil, api.ErrLong
	}
	if len(b) < 22 {
		return nil, api.ErrEnd
	}
	end := b[len(b)-22:]
	many, from := two(end, 8), four(end, 16)
	switch {
	case four(end, 0) != 0x06054b50:
		return nil, api.ErrMagic
	case two(end, 4) != 0 || two(end, 6) != 0 || two(end, 10) != many || two(end, 20) != 0:
		return nil, api.ErrForm
	case from+four(end, 12) != len(b)-22:
		return nil, api.ErrForm
	case many > l.Entries:
		return nil, api.ErrMany
	}
	records, central := [][]byte{}, b[from:len(b)-22]
	for range many {
		n, e := toldRecord(central, 46)
		if e != api.OK {
			return nil, e
		}
		records, central = append(records, central[:n]), central[n:]
	}
	if len(central) > 0 {
		return nil, api.ErrForm
	}
	return toldEntries(b[:from], records, l.Bytes)
}

// toldRecord is how many bytes the record has that b begins with: a central one has 46 without its name, a local one 30.
func toldRecord(b []byte, size int) (int, api.Errno) {
	if len(b) < size {
		return 0, api.ErrEnd
	}
	magic, at := 0x04034b50, 4
	if size == 46 {
		magic, at = 0x02014b50, 6
	}
	if four(b, 0) != magic {
		return 0, api.ErrMagic
	}
	flags, method := two(b, at+2), two(b, at+4)
	right := two(b, 4) == 20 && two(b, at) == 20 && (flags == 0 || flags == 8) && (method == 0 || method == 8) && two(b, at+24) == 0
	if size == 30 && flags == 8 {
		right = right && bytes.Equal(b[14:26], make([]byte, 12))
	}
	if size == 46 {
		right = right && bytes.Equal(b[32:42], make([]byte, 10))
	}
	if !right {
		return 0, api.ErrForm
	}
	if n := size + two(b, at+22); n <= len(b) {
		return n, api.OK
	}
	return 0, api.ErrEnd
}

// toldEntries are those of which the central records tell, their bytes being body.
func toldEntries(body []byte, records [][]byte, most int) ([]api.Entry, api.Errno) {
	out, at, all := []api.Entry{}, 0, 0
	for _, r := range records {
		name, m, size := string(r[46:]), api.Moment{Clock: uint16(two(r, 12)), Date: uint16(two(r, 14))}, four(r, 24)
		all += size
		switch {
		case four(r, 42) != at:
			return nil, api.ErrPlace
		case !nameIsRight(name) || name[len(name)-1] == '/' && size > 0:
			return nil, api.ErrName
		case !timeIsRight(m):
			return nil, api.ErrRange
		case slices.ContainsFunc(out, func(e api.Entry) bool { return e.Name == name }):
			return nil, api.ErrTwice
		case all > most:
			return nil, api.ErrLong
		}
		n, e := toldRecord(body[at:], 30)
		if e != api.OK {
			return nil, e
		}
		l := body[at : at+n]
		if !bytes.Equal(l[6:14], r[8:16]) || string(l[30:]) != name || two(r, 8) == 0 && !bytes.Equal(l[14:26], r[16:28]) {
			return nil, api.ErrForm
		}
		data, n, e := toldData(body[at+n:], r)
		if e != api.OK {
			return nil, e
		}
		at += len(l) + n
		out = append(out, api.Entry{Name: name, Time: m, Data: data})
	}
	if at != len(body) {
		return nil, api.ErrPlace
	}
	return out, api.OK
}

// toldData is what the bytes behind a local record stand for, and how many they are.
func toldData(b, r []byte) ([]byte, int, api.Errno) {
	packed, size, n := four(r, 20), four(r, 24), four(r, 20)
	if packed > len(b) {
		return nil, 0, api.ErrEnd
	}
	if two(r, 8) == 8 {
		n += 16
		switch {
		case len(b) < n:
			return nil, 0, api.ErrEnd
		case four(b, packed) != 0x08074b50:
			return nil, 0, api.ErrMagic
		case !bytes.Equal(b[packed+4:n], r[16:28]):
			return nil, 0, api.ErrForm
		}
	}
	data, e := b[:packed], api.OK
	if two(r, 10) == 8 {
		data, e = deflate.Inflate(data, size)
	}
	switch {
	case e != api.OK:
		return nil, 0, e
	case len(data) != size:
		return nil, 0, api.ErrForm
	case crc32.ChecksumIEEE(data) != uint32(four(r, 16)):
		return nil, 0, api.ErrCheck
	}
	return data, n, api.OK
}

func nameIsRight(s string) bool {
	if s == "" || len(s) > 65535 || !utf8.ValidString(s) {
		return false
	}
	for i := range len(s) {
		if s[i] < 32 || s[i] == '\\' || s[i] == 127 {
			return false
		}
	}
	slashed := "/" + strings.TrimSuffix(s, "/") + "/"
	return !strings.Contains(slashed, "//") && !strings.Contains(slashed, "/./") && !strings.Contains(slashed, "/../")
}

// timeIsRight asks the library's calendar, but for the year 2100, of which the chapter and the calendar tell the same.
func timeIsRight(m api.Moment) bool {
	year, month, day := 1980+int(m.Date>>9), int(m.Date>>5&15), int(m.Date&31)
	hour, minute, half := int(m.Clock>>11), int(m.Clock>>5&63), int(m.Clock&31)
	d := time.Date(year, time.Month(month), day, 0, 0, 0, 0, time.UTC)
	return d.Year() == year && int(d.Month()) == month && d.Day() == day && hour < 24 && minute < 60 && half < 30
}
