package zip_test

import (
	stdzip "archive/zip"
	"bytes"
	"fmt"
	"io"
	"math/rand"
	"slices"
	"strings"
	"testing"

	"packsaddle/api"
	"packsaddle/deflate"
	"packsaddle/zip"
)

// entry is one with a moment that may be.
func entry(name, data string) api.Entry {
	return api.Entry{Name: name, Time: api.Moment{Date: 33}, Data: []byte(data)}
}

// copied are the same entries in memory of their own.
func copied(e []api.Entry) []api.Entry {
	out := slices.Clone(e)
	for i := range out {
		out[i].Data = slices.Clone(out[i].Data)
	}
	return out
}

// laid is the archive of some entries by the chapter's words: without flags, data deflated, if that is shorter.
func laid(e []api.Entry) []byte {
	var w whole
	for _, x := range e {
		packed, k := x.Data, kind{}
		if short := deflate.Deflate(x.Data); len(short) < len(x.Data) {
			packed, k.method = short, 8
		}
		p := rightPacked(x.Name, string(x.Data), string(packed), k)
		p.timed(x.Time)
		w.parts = append(w.parts, p)
	}
	return w.bytes()
}

// wantWritten asks that entries are written as told, and read; and by limits that just let them through.
func wantWritten(t *testing.T, what string, e []api.Entry) []byte {
	t.Helper()
	kept, want := copied(e), laid(e)
	l := api.Limits{Entries: len(e), Whole: len(want)}
	for _, x := range e {
		l.Bytes += len(x.Data)
	}
	got, wrong := zip.Write(e, l)
	if wrong != api.OK || !bytes.Equal(got, want) {
		t.Errorf("%s: %d bytes, error %d; want %d bytes", what, len(got), wrong, len(want))
	}
	if !same(e, kept) {
		t.Errorf("%s: what was handed in was changed", what)
	}
	wantRead(t, what, got, l, kept)
	return got
}

// wantUnwritten asks that nothing is written, for that reason.
func wantUnwritten(t *testing.T, what string, e []api.Entry, l api.Limits, want api.Errno) {
	t.Helper()
	if b, wrong := zip.Write(e, l); wrong != want || len(b) != 0 {
		t.Errorf("%s: %d bytes, error %d; want %d", what, len(b), wrong, want)
	}
}

// P13.1: archives of no entries, of data of no bytes, of data that deflating makes shorter, and of data that it doesn't.
func TestWrite(t *testing.T) {
	if b := wantWritten(t, "nothing", nil); string(b) != "PK\x05\x06"+strings.Repeat("\x00", 18) {
		t.Errorf("nothing: %x", b)
	}
	wantWritten(t, "no entries", []api.Entry{})
	wantWritten(t, "an empty file", []api.Entry{entry("a", "")})
	wantWritten(t, "a folder", []api.Entry{entry("a/", "")})
	wantWritten(t, "nil data", []api.Entry{{Name: "a", Time: api.Moment{Date: 33}}})
	wantWritten(t, "small", smallEntries())
	wantWritten(t, "a folder and a file named so", []api.Entry{entry("a/", ""), entry("a", "x"), entry("A", "y")})
	wantWritten(t, "names of many bytes", []api.Entry{entry(strings.Repeat("n", 65535), "x"), entry(strings.Repeat("語", 21845), "y"), entry(strings.Repeat("n/", 32767), "")})
	stored, short := laid([]api.Entry{entry("a", "abcdefgh")}), laid([]api.Entry{entry("a", strings.Repeat("a", 100))})
	if two(stored, 8) != 0 || two(short, 8) != 8 {
		t.Error("Methods", two(stored, 8), two(short, 8))
	}
}

// P13.1: data are deflated only if that is shorter, and not if it is as long.
func TestWriteShorter(t *testing.T) {
	random, beside := rand.New(rand.NewSource(3)), map[int]int{}
	for range 3000 {
		b := make([]byte, random.Intn(60))
		for i := range b {
			b[i] = byte('a' + random.Intn(1+random.Intn(20)))
		}
		e := []api.Entry{{Name: "n", Time: api.Moment{Date: 33}, Data: b}}
		short := len(deflate.Deflate(b))
		got := wantWritten(t, fmt.Sprintf("%q", b), e)
		if want := 22 + 31 + 47 + min(short, len(b)); len(got) != want {
			t.Errorf("%q: %d bytes, want %d", b, len(got), want)
		}
		if method := two(got, 8); (method == 8) != (short < len(b)) {
			t.Errorf("%q, deflated %d bytes: Method %d", b, short, method)
		}
		beside[short-len(b)]++
	}
	if beside[-1] == 0 || beside[0] == 0 || beside[1] == 0 {
		t.Error("no data that deflating leaves as long, or nearly so:", beside)
	}
}

// P13.1: each limit at its bound, and one below.
func TestWriteLimits(t *testing.T) {
	e := smallEntries()
	n, bytes := len(laid(e)), len(hello)+11
	for _, x := range []struct {
		l    api.Limits
		want api.Errno
	}{{api.Limits{Entries: 2, Bytes: bytes, Whole: n}, api.ErrMany}, {api.Limits{Bytes: bytes, Whole: n}, api.ErrMany},
		{api.Limits{Entries: 3, Bytes: bytes - 1, Whole: n}, api.ErrLong}, {api.Limits{Entries: 3, Bytes: len(hello), Whole: n}, api.ErrLong}, {api.Limits{Entries: 3, Whole: n}, api.ErrLong},
		{api.Limits{Entries: 3, Bytes: bytes, Whole: n - 1}, api.ErrLong}, {api.Limits{Entries: 3, Bytes: bytes}, api.ErrLong}} {
		wantUnwritten(t, fmt.Sprintf("%+v", x.l), e, x.l, x.want)
	}
	for whole := range n {
		wantUnwritten(t, fmt.Sprint("Whole ", whole), e, api.Limits{Entries: 3, Bytes: bytes, Whole: whole}, api.ErrLong)
	}
	for whole := range 22 {
		wantUnwritten(t, fmt.Sprint("nothing, Whole ", whole), nil, api.Limits{Whole: whole}, api.ErrLong)
	}
	wantUnwritten(t, "entries of no bytes, none let through", []api.Entry{entry("a", "")}, api.Limits{Whole: 1000}, api.ErrMany)
	wantWritten(t, "no bytes let through, and there are none", []api.Entry{entry("a", ""), entry("b/", "")})
}

// P13.1: as many entries, as many bytes, and as long an archive as may be; and more.
func TestWriteGreat(t *testing.T) {
	var e []api.Entry
	for i := range 65536 {
		e = append(e, entry(fmt.Sprint(i), fmt.Sprint(-i)))
	}
	wantWritten(t, "65535 entries", e[:65535])
	wantUnwritten(t, "65536 entries", e, roomy(), api.ErrMany)
	text := strings.Repeat("packsaddle", 1<<21)
	if b, wrong := zip.Write([]api.Entry{entry("a", text[:1<<23]), entry("b", text[:1<<23])}, roomy()); wrong != api.OK || len(b) > 1<<20 {
		t.Error("1 << 24 bytes:", len(b), wrong)
	}
	wantUnwritten(t, "1 << 24 bytes and 1", []api.Entry{entry("a", text[:1<<23]), entry("b", text[:1<<23]), entry("c", "x")}, roomy(), api.ErrLong)
	wantUnwritten(t, "1 << 24 bytes and 1 in one", []api.Entry{entry("a", text[:1<<24+1])}, roomy(), api.ErrLong)
	var long []api.Entry
	for i := range 139 {
		long = append(long, entry(fmt.Sprintf("%03d", i)+strings.Repeat("n", 60308), ""))
	}
	long[138].Name += strings.Repeat("m", 86)
	if b := wantWritten(t, "1 << 24 bytes, with the names", long); len(b) != 1<<24 {
		t.Error("1 << 24 bytes, with the names:", len(b))
	}
	long[70].Data = []byte("x")
	wantUnwritten(t, "1 << 24 bytes and 1, with the names", long, roomy(), api.ErrLong)
	for i := range 300 {
		long = append(long, entry(fmt.Sprint(i)+strings.Repeat("n", 60000), ""))
	}
	wantUnwritten(t, "names that are longer than all may be", long, roomy(), api.ErrLong)
	long[len(long)-1].Time.Date = 0
	wantUnwritten(t, "and a moment that may not be behind them", long, roomy(), api.ErrRange)
}

// wrongEntry is something wrong with an entry, with what is told of it.
type wrongEntry struct {
	what string
	want api.Errno
	make func(x *api.Entry)
}

// wrongEntries are all that may be wrong with an entry, in the order in which they are told; the names "ahead" and "ahead/" stand ahead, and at most 10 bytes may come.
func wrongEntries() []wrongEntry {
	return []wrongEntry{
		{"name", api.ErrName, func(x *api.Entry) { x.Name += "/.." }},
		{"a folder with data", api.ErrName, func(x *api.Entry) { x.Name += "/"; x.Data = append(x.Data, 'x') }},
		{"moment", api.ErrRange, func(x *api.Entry) { x.Time.Clock += 30 }},
		{"twice", api.ErrTwice, func(x *api.Entry) { x.Name = strings.Replace(x.Name, "name", "ahead", 1) }},
		{"bytes", api.ErrLong, func(x *api.Entry) { x.Data = append(x.Data, "0123456789a"...) }},
	}
}

// P13.1: of two errors the one comes first that the chapter names first: in one entry by its order, else the earlier entry's.
func TestWriteFirst(t *testing.T) {
	base := []api.Entry{entry("ahead", ""), entry("ahead/", ""), entry("name", ""), entry("name 2", ""), entry("name 3", "")}
	good, tight := api.Limits{Entries: 5, Bytes: 10, Whole: 1000}, api.Limits{Entries: 5, Bytes: 10, Whole: 100}
	wrong := wrongEntries()
	for i, first := range wrong {
		e := copied(base)
		first.make(&e[3])
		if first.what == "twice" {
			e[3].Name = "ahead"
		}
		wantUnwritten(t, first.what, e, good, first.want)
		wantUnwritten(t, first.what+", and the archive too long", e, tight, first.want)
		wantUnwritten(t, first.what+", and too many", e, api.Limits{Entries: 4, Bytes: 10, Whole: 1000}, api.ErrMany)
		wantUnwritten(t, first.what+", and limits that may not be", e, api.Limits{Entries: -1, Bytes: 10, Whole: 1000}, api.ErrArg)
		for _, second := range wrong[i+1:] {
			for _, pair := range [][]wrongEntry{{first, second}, {second, first}} {
				e := copied(base)
				pair[0].make(&e[2])
				pair[1].make(&e[2])
				wantUnwritten(t, first.what+" and "+second.what, e, good, first.want)
			}
		}
		for _, later := range wrong {
			e := copied(base)
			first.make(&e[2])
			later.make(&e[3])
			wantUnwritten(t, first.what+" ahead of "+later.what, e, good, first.want)
		}
	}
	wantUnwritten(t, "too many, and limits that may not be", base, api.Limits{Entries: 4, Bytes: 1<<24 + 1, Whole: 1000}, api.ErrArg)
	wantUnwritten(t, "too many, and the archive too long", base, api.Limits{Entries: 4, Bytes: 10, Whole: 1}, api.ErrMany)
	wantUnwritten(t, "the archive too long", base, tight, api.ErrLong)
}

// P13.1: names and moments that may not be, at each place.
func TestWriteWrong(t *testing.T) {
	for at := range 3 {
		for _, name := range []string{"", "/", ".", "..", "../x", "/x", "x/../y", "x//", "x//y", "\\", "x\x00", "x\x1f", "x\x7f", "\xff", "x\xed\xa0\x80", "\xc0\xaf", "\xe8\xaa", strings.Repeat("n", 65536)} {
			e := smallEntries()
			e[at].Name = name
			wantUnwritten(t, fmt.Sprintf("%.20q", name), e, roomy(), api.ErrName)
		}
		for _, m := range []api.Moment{{}, {Date: 32}, {Date: 2<<5 | 30}, {Date: 120<<9 | 2<<5 | 29}, {Date: 33, Clock: 24 << 11}, {Date: 33, Clock: 60 << 5}, {Date: 33, Clock: 30}} {
			e := smallEntries()
			e[at].Time = m
			wantUnwritten(t, fmt.Sprintf("%+v", m), e, roomy(), api.ErrRange)
		}
		for other := range at {
			e := smallEntries()
			e[at].Name, e[other].Name = "same", "same"
			wantUnwritten(t, "twice", e, roomy(), api.ErrTwice)
		}
	}
	wantUnwritten(t, "a folder with data", []api.Entry{entry("d/", "x")}, roomy(), api.ErrName)
	wantUnwritten(t, "a folder twice", []api.Entry{entry("d/", ""), entry("d/", "")}, roomy(), api.ErrTwice)
}

// someEntries are entries of many shapes.
func someEntries(random *rand.Rand) []api.Entry {
	var out []api.Entry
	for i := range random.Intn(12) {
		data := make([]byte, random.Intn(1<<random.Intn(15)))
		switch random.Intn(3) {
		case 0:
			random.Read(data)
		case 1:
			for i := range data {
				data[i] = "class A { }\n"[random.Intn(1+random.Intn(12))]
			}
		}
		parts := []string{"META-INF", "ä", "日本", "a b", "...", "\U0001f40e", strings.Repeat("long", random.Intn(40)+1)}
		name := ""
		for range random.Intn(4) {
			name += parts[random.Intn(len(parts))] + "/"
		}
		name += fmt.Sprint(i)
		if random.Intn(6) == 0 {
			name, data = name+"/", nil
		}
		m := api.Moment{Date: uint16(random.Intn(128)<<9 | (1+random.Intn(12))<<5 | 1 + random.Intn(28)), Clock: uint16(random.Intn(24)<<11 | random.Intn(60)<<5 | random.Intn(30))}
		out = append(out, api.Entry{Name: name, Time: m, Data: data})
	}
	return out
}

// P13.2: entries of many shapes are read as they were written, in order; and by the library's reader of archives too.
func TestWrittenIsRead(t *testing.T) {
	random := rand.New(rand.NewSource(5))
	for i := range 600 {
		e := someEntries(random)
		b := wantWritten(t, fmt.Sprint("entries ", i), e)
		wantLibrary(t, fmt.Sprint("entries ", i), b, e)
	}
	wantLibrary(t, "nothing", wantWritten(t, "nothing", nil), nil)
	wantLibrary(t, "small", wantWritten(t, "small", smallEntries()), smallEntries())
}

// wantLibrary asks that the library reads these entries.
func wantLibrary(t *testing.T, what string, b []byte, want []api.Entry) {
	t.Helper()
	z, err := stdzip.NewReader(bytes.NewReader(b), int64(len(b)))
	if err != nil || len(z.File) != len(want) {
		t.Fatal(what, err)
	}
	for i, f := range z.File {
		r, err := f.Open()
		if err != nil {
			t.Fatal(what, err)
		}
		data, err := io.ReadAll(r)
		x := want[i]
		if err != nil || f.Name != x.Name || !bytes.Equal(data, x.Data) || f.ModifiedDate != x.Time.Date || f.ModifiedTime != x.Time.Clock || f.FileInfo().IsDir() != strings.HasSuffix(x.Name, "/") {
			t.Error(what, i, err, f.Name, len(data))
		}
	}
}

// P13.1: what was read is written, and what was written so is read; it has the same entries, whatever kinds were read.
func TestReadIsWritten(t *testing.T) {
	random := rand.New(rand.NewSource(6))
	for range 1000 {
		w, want := anyArchive(random)
		wantRead(t, "any", w.bytes(), roomy(), want)
		got, _ := zip.Read(w.bytes(), roomy())
		wantWritten(t, "any", got)
	}
}

// LANGUAGE 5 and 7: the same entries have the same archive, whose memory is its own.
func TestWriteMemory(t *testing.T) {
	e := smallEntries()
	first, _ := zip.Write(e, roomy())
	second, _ := zip.Write(e, roomy())
	kept := slices.Clone(second)
	clear(first[:cap(first)])
	for i := range e {
		clear(e[i].Data)
	}
	if !bytes.Equal(second, kept) || !bytes.Equal(kept, laid(smallEntries())) {
		t.Error("shared")
	}
}
