package zip_test

import (
	"fmt"
	"math/rand"
	"slices"
	"strings"
	"testing"

	"packsaddle/api"
	"packsaddle/zip"
)

const hello = "hello, hello, hello, hello, hello"

// small is an archive of three entries, of any kinds.
func small(k ...kind) whole {
	return whole{parts: []part{right("a.txt", hello, k[0]), right("d/", "", k[1%len(k)]), right("d/A.class", "other bytes", k[2%len(k)])}}
}

// smallEntries are those of a small archive.
func smallEntries() []api.Entry {
	m := api.Moment{Date: 0x5d21, Clock: 0x6c43}
	return []api.Entry{{Name: "a.txt", Time: m, Data: []byte(hello)}, {Name: "d/", Time: m}, {Name: "d/A.class", Time: m, Data: []byte("other bytes")}}
}

// eachSmall goes through small archives whose entries are all of one kind, and through one of unlike kinds.
func eachSmall(do func(what string, w func() whole)) {
	for _, k := range allKinds() {
		do(fmt.Sprintf("%+v", k), func() whole { return small(k) })
	}
	do("kinds unlike", func() whole { return small(kind{8, true}, kind{0, false}, kind{8, false}) })
}

// P13.1: archives of all kinds are read, entries in order.
func TestRead(t *testing.T) {
	eachSmall(func(what string, w func() whole) {
		wantRead(t, what, w().bytes(), roomy(), smallEntries())
	})
	for _, a := range allKinds() {
		for _, b := range allKinds() {
			for _, c := range allKinds() {
				wantRead(t, fmt.Sprint(a, b, c), small(a, b, c).bytes(), roomy(), smallEntries())
			}
		}
	}
	wantRead(t, "no entries", whole{}.bytes(), roomy(), nil)
	wantRead(t, "no entries, no limits", whole{}.bytes(), api.Limits{Whole: 22}, nil)
}

// P13.1: the bytes, one by one.
func TestReadBytes(t *testing.T) {
	b := "PK\x03\x04\x14\x00\x00\x00\x00\x00\x43\x6c\x21\x5d\x43\xbe\xb7\xe8\x01\x00\x00\x00\x01\x00\x00\x00\x02\x00\x00\x00xya" +
		"PK\x01\x02\x14\x00\x14\x00\x00\x00\x00\x00\x43\x6c\x21\x5d\x43\xbe\xb7\xe8\x01\x00\x00\x00\x01\x00\x00\x00\x02\x00\x00\x00\x00\x00\x00\x00\x00\x00\x00\x00\x00\x00\x00\x00\x00\x00xy" +
		"PK\x05\x06\x00\x00\x00\x00\x01\x00\x01\x00\x30\x00\x00\x00\x21\x00\x00\x00\x00\x00"
	want := []api.Entry{{Name: "xy", Time: api.Moment{Date: 0x5d21, Clock: 0x6c43}, Data: []byte("a")}}
	wantRead(t, "one entry", []byte(b), roomy(), want)
	if w := (whole{parts: []part{right("xy", "a", kind{})}}); string(w.bytes()) != b {
		t.Errorf("laid otherwise: %x", w.bytes())
	}
	if got, e := zip.Write(want, roomy()); e != api.OK || string(got) != b {
		t.Errorf("written: %x, error %d", got, e)
	}
}

// P13.1: too few bytes for an end, and bytes that are none.
func TestReadNoEnd(t *testing.T) {
	end := whole{}.bytes()
	for n := range 22 {
		wantWrong(t, "a part of an end", end[:n], roomy(), api.ErrEnd)
		wantWrong(t, "a part of an end", end[22-n:], roomy(), api.ErrEnd)
		wantWrong(t, "noughts", make([]byte, n), roomy(), api.ErrEnd)
	}
	for _, n := range []int{22, 23, 100, 70000} {
		wantWrong(t, "noughts", make([]byte, n), roomy(), api.ErrMagic)
	}
	wantWrong(t, "nothing", nil, roomy(), api.ErrEnd)
	wantWrong(t, "two ends", slices.Concat(end, end), roomy(), api.ErrForm)
	wantWrong(t, "an end that isn't at the end", append(end, 0), roomy(), api.ErrMagic)
}

// P13.1: each byte of the end turned.
func TestReadEnd(t *testing.T) {
	fields := []struct {
		what string
		want api.Errno
	}{{"magic", api.ErrMagic}, {"disk", api.ErrForm}, {"disk of the central records", api.ErrForm}, {"many here", api.ErrForm}, {"many", api.ErrForm}, {"size", api.ErrForm}, {"from", api.ErrForm}, {"remark", api.ErrForm}}
	for i, f := range fields {
		for _, by := range []int{1, -1, 2, 255, 256, 32768} {
			w := small(kind{})
			w.end[i] = by
			wantWrong(t, f.what, w.bytes(), roomy(), f.want)
		}
	}
	for _, by := range []int{1, -1, 16, 22, 46, 1 << 16, 1 << 24, 1 << 30, 1 << 31} {
		w := small(kind{})
		w.end[5], w.end[6] = by, -by
		wantAsTold(t, "the central records begin elsewhere", w.bytes(), roomy())
		w.end[5], w.end[6] = by, by
		wantWrong(t, "the central records lead elsewhere", w.bytes(), roomy(), api.ErrForm)
	}
	w := small(kind{})
	w.end[5], w.end[6] = -1, 1
	wantWrong(t, "from a byte too late", w.bytes(), roomy(), api.ErrMagic)
	w.end[5], w.end[6] = 1, -1
	wantWrong(t, "from a byte too early", w.bytes(), roomy(), api.ErrMagic)
	first := len(w.parts[0].central.name) + 46
	w.end[5], w.end[6] = -first, first
	wantWrong(t, "from the second one on", w.bytes(), roomy(), api.ErrEnd)
	w.end[3], w.end[4] = -1, -1
	wantWrong(t, "from the second one on, and no more of them", w.bytes(), roomy(), api.ErrPlace)
}

// P13.1: central records that are too many, or too few, for what the end tells.
func TestReadMany(t *testing.T) {
	for by := -3; by <= 3; by++ {
		w := small(kind{8, true})
		w.end[3], w.end[4] = by, by
		want := api.ErrEnd
		if by < 0 {
			want = api.ErrForm
		}
		if by != 0 {
			wantWrong(t, fmt.Sprint(by, " more"), w.bytes(), roomy(), want)
		}
	}
	w := small(kind{})
	w.end[3], w.end[4] = 65535-3, 65535-3
	wantWrong(t, "65535", w.bytes(), roomy(), api.ErrEnd)
	w.lastGap = "x"
	wantWrong(t, "a byte between the central records and the end", w.bytes(), roomy(), api.ErrForm)
	w.end[5] = 1
	wantWrong(t, "a byte behind the central records, too many of them", w.bytes(), roomy(), api.ErrEnd)
	w.end[3], w.end[4] = 0, 0
	wantWrong(t, "a byte behind the central records", w.bytes(), roomy(), api.ErrForm)
	w.end[3], w.end[4] = 1, 1
	wantWrong(t, "a byte behind the central records, one too many", w.bytes(), roomy(), api.ErrEnd)
}

// P13.1: what goes wrong in a central record, with each of its numbers.
func TestReadCentral(t *testing.T) {
	turns := []struct {
		what string
		turn func(h *head)
		want api.Errno
	}{
		{"magic", func(h *head) { h.magic ^= 1 << 9 }, api.ErrMagic},
		{"magic of a local record", func(h *head) { h.magic = 0x04034b50 }, api.ErrMagic},
		{"version made", func(h *head) { h.made++ }, api.ErrForm},
		{"version needed", func(h *head) { h.version-- }, api.ErrForm},
		{"flags", func(h *head) { h.flags ^= 2048 }, api.ErrForm},
		{"method", func(h *head) { h.method ^= 1 }, api.ErrForm},
		{"nought", func(h *head) { h.nought = 4 }, api.ErrForm},
		{"remark", func(h *head) { h.a = 1 }, api.ErrForm},
		{"disk", func(h *head) { h.b = 1 }, api.ErrForm},
		{"inner", func(h *head) { h.c = 256 }, api.ErrForm},
		{"outer", func(h *head) { h.fourNoughts = 1 << 31 }, api.ErrForm},
	}
	for at := range 3 {
		for _, x := range turns {
			eachSmall(func(what string, w func() whole) {
				a := w()
				x.turn(&a.parts[at].central)
				wantWrong(t, x.what+" "+what, a.bytes(), roomy(), x.want)
			})
		}
	}
	w := small(kind{})
	w.parts[2].central.length++
	wantWrong(t, "a name that leads into the end", w.bytes(), roomy(), api.ErrEnd)
	w.parts[2].central.length -= 2
	wantWrong(t, "a name with a byte behind it", w.bytes(), roomy(), api.ErrForm)
	w = small(kind{})
	w.parts[0].central.length++
	wantWrong(t, "a name that leads into the next one", w.bytes(), roomy(), api.ErrMagic)
	w.parts[1].central.magic = 0
	wantWrong(t, "two wrong ones", w.bytes(), roomy(), api.ErrMagic)
	w.parts[0].central.nought = 1
	wantWrong(t, "two wrong ones, the first of other form", w.bytes(), roomy(), api.ErrForm)
}

// P13.1: a local record that says another thing than the central one, in each number and in its name.
func TestReadUnlike(t *testing.T) {
	turns := []struct {
		what string
		turn func(h *head)
	}{
		{"flags", func(h *head) { h.flags ^= 8 }},
		{"method", func(h *head) { h.method ^= 8 }},
		{"clock", func(h *head) { h.clock++ }},
		{"clock, highest bit", func(h *head) { h.clock ^= 1 << 15 }},
		{"date", func(h *head) { h.date++ }},
		{"date, highest bit", func(h *head) { h.date ^= 1 << 15 }},
		{"sum", func(h *head) { h.sum++ }},
		{"sum, highest bit", func(h *head) { h.sum ^= 1 << 31 }},
		{"packed", func(h *head) { h.packed++ }},
		{"packed, highest bit", func(h *head) { h.packed ^= 1 << 31 }},
		{"size", func(h *head) { h.size++ }},
		{"size, highest bit", func(h *head) { h.size ^= 1 << 31 }},
		{"name", func(h *head) { h.name = "b" + h.name[1:] }},
		{"name's case", func(h *head) { h.name = strings.ToUpper(h.name[:1]) + h.name[1:] }},
		{"name with a byte more", func(h *head) { h.name += "x"; h.length++ }},
		{"name with a byte less", func(h *head) { h.name = h.name[:len(h.name)-1]; h.length-- }},
		{"name's length", func(h *head) { h.length-- }},
		{"no name", func(h *head) { h.name, h.length = "", 0 }},
		{"version", func(h *head) { h.version = 10 }},
		{"nought", func(h *head) { h.nought = 9 }},
		{"nought in the flags", func(h *head) { h.flags |= 1 }},
		{"another method", func(h *head) { h.method |= 1 }},
	}
	for at := range 3 {
		for _, x := range turns {
			eachSmall(func(what string, w func() whole) {
				a := w()
				x.turn(&a.parts[at].local)
				wantWrong(t, x.what+" "+what, a.bytes(), roomy(), api.ErrForm)
			})
		}
		eachSmall(func(what string, w func() whole) {
			a := w()
			a.parts[at].local.magic = 0x02014b50
			wantWrong(t, "magic "+what, a.bytes(), roomy(), api.ErrMagic)
		})
	}
	w := small(kind{})
	w.parts[2].local.length = 65535
	wantWrong(t, "a local name that leads into the central records", w.bytes(), roomy(), api.ErrEnd)
	w.parts[2].local.length = 9 + 12
	wantWrong(t, "a local name that leads one byte into the central records", w.bytes(), roomy(), api.ErrEnd)
	w.parts[2].local.length = 9 + 11
	wantWrong(t, "a local name that leads up to the central records", w.bytes(), roomy(), api.ErrForm)
}

// P13.1: a local record or what stands behind the data isn't there, since the central records begin.
func TestReadShort(t *testing.T) {
	for _, k := range allKinds() {
		good := whole{parts: []part{right("name", hello, k)}}.bytes()
		body := four(good, len(good)-22+16)
		for n := range body {
			b := slices.Concat(good[:n], good[body:])
			copy(b[len(b)-22+16:], numbers(nil, 4, uint32(n)))
			wantWrong(t, fmt.Sprint(k, " cut at ", n), b, roomy(), api.ErrEnd)
		}
		b := slices.Concat(good[:body], []byte{0}, good[body:])
		copy(b[len(b)-22+16:], numbers(nil, 4, uint32(body+1)))
		wantWrong(t, fmt.Sprint(k, " with a byte more"), b, roomy(), api.ErrPlace)
	}
	for _, by := range []uint32{1, 2, 16, 1 << 8, 1 << 16, 1 << 24, 1 << 31} {
		for _, k := range allKinds() {
			w := small(k)
			h := w.parts[2].central
			w.parts[2].say(h.sum, h.packed+by, h.size)
			wantWrong(t, fmt.Sprint(k, " Packed more by ", by), w.bytes(), roomy(), api.ErrEnd)
		}
	}
}

// P13.1: what stands behind the data, missing or wrong.
func TestReadBehind(t *testing.T) {
	for at := range 3 {
		for _, method := range []uint16{0, 8} {
			for i, want := range []api.Errno{api.ErrMagic, api.ErrForm, api.ErrForm, api.ErrForm} {
				for bit := range 32 {
					w := small(kind{method, true})
					w.parts[at].behind[i] ^= 1 << bit
					wantWrong(t, fmt.Sprint("number ", i, " behind, bit ", bit), w.bytes(), roomy(), want)
				}
			}
			w := small(kind{method, true})
			w.parts[at].behind = nil
			want := api.ErrMagic
			if at == 2 {
				want = api.ErrEnd
			}
			wantWrong(t, "nothing behind", w.bytes(), roomy(), want)
			w.parts[at].behind = []uint32{0x08074b50, w.parts[at].central.sum, w.parts[at].central.packed}
			wantAsTold(t, "Size missing behind", w.bytes(), roomy())
			h := w.parts[at].central
			w.parts[at].behind = []uint32{h.sum, h.packed, h.size}
			wantAsTold(t, "magic missing behind", w.bytes(), roomy())
			w = small(kind{method, false})
			w.parts[at].behind = []uint32{0x08074b50, h.sum, h.packed, h.size}
			wantWrong(t, "something behind without the flag", w.bytes(), roomy(), api.ErrPlace)
		}
	}
}

// P13.1: data that aren't what is told of them.
func TestReadData(t *testing.T) {
	one := func(p part) []byte { return whole{parts: []part{p, right("last", "x", kind{})}}.bytes() }
	for _, flag := range []bool{false, true} {
		plain, short := kind{0, flag}, kind{8, flag}
		for by := -2; by <= 2; by++ {
			p := rightPacked("n", hello, hello, plain)
			p.say(p.central.sum, p.central.packed, uint32(len(hello)+by))
			q := rightPacked("n", hello, deflated(hello), short)
			q.say(q.central.sum, q.central.packed, uint32(len(hello)+by))
			switch {
			case by < 0:
				wantWrong(t, "Size too small, Method 0", one(p), roomy(), api.ErrForm)
				wantWrong(t, "Size too small, Method 8", one(q), roomy(), api.ErrLong)
			case by > 0:
				wantWrong(t, "Size too great, Method 0", one(p), roomy(), api.ErrForm)
				wantWrong(t, "Size too great, Method 8", one(q), roomy(), api.ErrForm)
			default:
				wantAsTold(t, "right", one(p), roomy())
				wantAsTold(t, "right", one(q), roomy())
			}
		}
		good := deflated(hello)
		for n := range len(good) {
			wantWrong(t, "data end too early", one(rightPacked("n", hello, good[:n], short)), roomy(), api.ErrEnd)
		}
		wantWrong(t, "data leave a byte", one(rightPacked("n", hello, good+"\x00", short)), roomy(), api.ErrForm)
		wantWrong(t, "data leave bytes", one(rightPacked("n", hello, good+good, short)), roomy(), api.ErrForm)
		wantWrong(t, "data of no bytes", one(rightPacked("n", "", "", short)), roomy(), api.ErrEnd)
		wantWrong(t, "a block of the kind 3", one(rightPacked("n", "", "\x07", short)), roomy(), api.ErrForm)
		wantWrong(t, "a copy from ahead of all", one(rightPacked("n", hello, "\x03\x02\x00", short)), roomy(), api.ErrBack)
		wantWrong(t, "the sign 286", one(rightPacked("n", hello, "\x1b\x03", short)), roomy(), api.ErrRange)
		wantWrong(t, "31 distances", one(rightPacked("n", hello, "\x05\x1e\x00\x00", short)), roomy(), api.ErrMany)
		wantWrong(t, "lengths that are none", one(rightPacked("n", hello, "\x05\x00\x92\x04\x00", short)), roomy(), api.ErrCode)
		wantWrong(t, "no bytes, and told of one", one(func() part { p := right("n", "", plain); p.say(0, 0, 1); return p }()), roomy(), api.ErrForm)
	}
}

// P13.1: each of a sum's bits.
func TestReadSum(t *testing.T) {
	for at := range 3 {
		for bit := range 32 {
			eachSmall(func(what string, w func() whole) {
				a := w()
				h := a.parts[at].central
				a.parts[at].say(h.sum^1<<bit, h.packed, h.size)
				wantWrong(t, "sum "+what, a.bytes(), roomy(), api.ErrCheck)
			})
		}
	}
	for i := range hello {
		p := right("n", hello, kind{})
		p.data = hello[:i] + "H" + hello[i+1:]
		wantWrong(t, "data", whole{parts: []part{p}}.bytes(), roomy(), api.ErrCheck)
	}
}

// P13.1: names and moments that may not be, names that come twice, folders with data.
func TestReadNames(t *testing.T) {
	for at := range 3 {
		eachSmall(func(what string, w func() whole) {
			for _, name := range []string{"", "/", "..", "../x", "x/../y", "x//", "x//y", "\\", "x\x00", "x\x1f", "x\x7f", "\xff", "x\xed\xa0\x80", "\xc0\xaf", "\xe8\xaa"} {
				a := w()
				a.parts[at].named(name)
				wantWrong(t, fmt.Sprintf("%q %s", name, what), a.bytes(), roomy(), api.ErrName)
			}
			for _, name := range []string{"x", "x y", "x\u0080", "Ж/語", "...", strings.Repeat("n", 65535), strings.Repeat("n/", 32767)} {
				a := w()
				a.parts[at].named(name)
				want := api.OK
				if at != 1 && name[len(name)-1] == '/' {
					want = api.ErrName
				}
				if got := wantAsTold(t, fmt.Sprintf("%.20q %s", name, what), a.bytes(), roomy()); got != want {
					t.Errorf("%.20q %s: error %d", name, what, got)
				}
			}
			for _, m := range []api.Moment{{}, {Date: 32}, {Date: 1}, {Date: 13<<5 | 1}, {Date: 2<<5 | 30}, {Date: 1<<9 | 2<<5 | 29}, {Date: 120<<9 | 2<<5 | 29}, {Date: 4<<5 | 31},
				{Date: 33, Clock: 24 << 11}, {Date: 33, Clock: 60 << 5}, {Date: 33, Clock: 30}, {Date: 65535, Clock: 65535}} {
				a := w()
				a.parts[at].timed(m)
				wantWrong(t, fmt.Sprintf("%+v %s", m, what), a.bytes(), roomy(), api.ErrRange)
			}
			for _, m := range []api.Moment{{Date: 33}, {Date: 2<<5 | 29}, {Date: 127<<9 | 12<<5 | 31, Clock: 23<<11 | 59<<5 | 29}} {
				a := w()
				a.parts[at].timed(m)
				want := smallEntries()
				want[at].Time = m
				wantRead(t, fmt.Sprintf("%+v %s", m, what), a.bytes(), roomy(), want)
			}
			for other := range at {
				a := w()
				a.parts[other].named("same")
				a.parts[at].named("same")
				wantWrong(t, "twice "+what, a.bytes(), roomy(), api.ErrTwice)
			}
		})
	}
	for _, k := range allKinds() {
		w := whole{parts: []part{right("d/", "x", k)}}
		wantWrong(t, "a folder with data", w.bytes(), roomy(), api.ErrName)
		w = whole{parts: []part{right("d", "x", k), right("d/", "", k), right("D", "x", k), right("D/", "", k)}}
		if wantAsTold(t, "a folder, and a file named so", w.bytes(), roomy()) != api.OK {
			t.Error("a folder and a file aren't one")
		}
	}
}

// P13.1: bytes ahead, between and behind; entries out of order, and entries twice.
func TestReadPlaces(t *testing.T) {
	for _, k := range allKinds() {
		what, good := fmt.Sprint(k), small(k).bytes()
		for _, more := range []string{"\x00", "x", "PK\x03\x04", "PK\x05\x06", strings.Repeat("y", 300)} {
			wantWrong(t, "bytes ahead of all "+what, append([]byte(more), good...), roomy(), api.ErrForm)
			wantWrong(t, "bytes behind "+what, append(slices.Clone(good), more...), roomy(), api.ErrMagic)
			for at := range 3 {
				w := small(k)
				w.parts[at].gap = more
				wantWrong(t, "bytes ahead of an entry "+what, w.bytes(), roomy(), api.ErrPlace)
			}
			w := small(k)
			w.gap = more
			wantWrong(t, "bytes ahead of the central records "+what, w.bytes(), roomy(), api.ErrPlace)
			w.gap, w.lastGap = "", more
			wantWrong(t, "bytes ahead of the end "+what, w.bytes(), roomy(), api.ErrForm)
			wantWrong(t, "bytes, and no entries", whole{gap: more}.bytes(), roomy(), api.ErrPlace)
		}
		for at := range 3 {
			for _, shift := range []uint32{1, 0xffffffff, 46, 1 << 8, 1 << 16, 1 << 24, 1 << 31} {
				w := small(k)
				w.parts[at].central.shift = shift
				wantWrong(t, "another Offset "+what, w.bytes(), roomy(), api.ErrPlace)
			}
		}
	}
}

// P13.1: central records in another order than the entries, one of them twice or none of one.
func TestReadOrder(t *testing.T) {
	for _, k := range allKinds() {
		for _, order := range [][]int{{0}, {1}, {2}, {0, 1}, {0, 2}, {1, 2}, {0, 2, 1}, {1, 0, 2}, {1, 2, 0}, {2, 0, 1}, {2, 1, 0}, {0, 0, 1, 2}, {0, 1, 1, 2}, {0, 1, 2, 2}, {0, 1, 2, 0}, {}} {
			b := small(k).bytes()
			end := len(b) - 22
			from := four(b, end+16)
			parts := [][]byte{b[from : from+51], b[from+51 : from+99], b[from+99 : end]}
			var central []byte
			for _, i := range order {
				central = append(central, parts[i]...)
			}
			n, size := uint32(len(order)), uint32(len(central))
			b = slices.Concat(b[:from], central, numbers(numbers(numbers([]byte("PK\x05\x06"), 2, 0, 0, n, n), 4, size, uint32(from)), 2, 0))
			wantWrong(t, fmt.Sprint(k, " central records ", order), b, roomy(), api.ErrPlace)
		}
		for _, order := range [][]int{{0}, {2, 0}, {2, 1, 0}, {1, 0, 2}, {1}, {}} {
			var w whole
			var want []api.Entry
			for _, i := range order {
				w.parts, want = append(w.parts, small(k).parts[i]), append(want, smallEntries()[i])
			}
			wantRead(t, fmt.Sprint(k, " entries ", order), w.bytes(), roomy(), want)
			if len(order) > 0 {
				w.parts = append(w.parts, w.parts[0])
				wantWrong(t, fmt.Sprint(k, " the first one twice ", order), w.bytes(), roomy(), api.ErrTwice)
			}
		}
	}
}

// P13.1: each limit at its bound, and one below.
func TestReadLimits(t *testing.T) {
	eachSmall(func(what string, w func() whole) {
		b := w().bytes()
		l := api.Limits{Entries: 3, Bytes: len(hello) + 11, Whole: len(b)}
		wantRead(t, what, b, l, smallEntries())
		for _, x := range []struct {
			l    api.Limits
			want api.Errno
		}{{api.Limits{Entries: 2, Bytes: l.Bytes, Whole: l.Whole}, api.ErrMany}, {api.Limits{Entries: 3, Bytes: l.Bytes - 1, Whole: l.Whole}, api.ErrLong}, {api.Limits{Entries: 3, Bytes: l.Bytes, Whole: l.Whole - 1}, api.ErrLong},
			{api.Limits{Bytes: l.Bytes, Whole: l.Whole}, api.ErrMany}, {api.Limits{Entries: 3, Whole: l.Whole}, api.ErrLong}, {api.Limits{Entries: 3, Bytes: l.Bytes}, api.ErrLong},
			{api.Limits{Entries: 3, Bytes: len(hello), Whole: l.Whole}, api.ErrLong}, {api.Limits{Entries: 3, Bytes: len(hello) - 1, Whole: l.Whole}, api.ErrLong}} {
			wantWrong(t, what+fmt.Sprintf(" %+v", x.l), b, x.l, x.want)
		}
	})
	folders := whole{parts: []part{right("a/", "", kind{}), right("b", "", kind{8, true})}}.bytes()
	wantAsTold(t, "no bytes at all", folders, api.Limits{Entries: 2, Whole: len(folders)})
	p := right("n", hello, kind{})
	p.say(p.central.sum, p.central.packed, 1<<24)
	wantWrong(t, "as many bytes as may be at most", whole{parts: []part{p}}.bytes(), roomy(), api.ErrForm)
	p.say(p.central.sum, p.central.packed, 1<<24+1)
	wantWrong(t, "more", whole{parts: []part{p}}.bytes(), roomy(), api.ErrLong)
	p.say(p.central.sum, p.central.packed, 1<<32-1)
	wantWrong(t, "many more", whole{parts: []part{p, p}}.bytes(), roomy(), api.ErrLong)
	q := right("m", "x", kind{})
	p.say(p.central.sum, p.central.packed, 1<<24)
	wantWrong(t, "together more", whole{parts: []part{q, p}}.bytes(), roomy(), api.ErrLong)
}

// P13.1: an archive as long as may be, one that is longer, and one of as many entries and bytes as may be.
func TestReadGreat(t *testing.T) {
	data := strings.Repeat("packsaddle", 1<<21)[:1<<24-22-31-47]
	b := whole{parts: []part{right("n", data, kind{})}}.bytes()
	wantRead(t, "1 << 24 bytes", b, roomy(), []api.Entry{{Name: "n", Time: smallEntries()[0].Time, Data: []byte(data)}})
	b = whole{parts: []part{right("n", data+"x", kind{})}}.bytes()
	wantWrong(t, "1 << 24 and 1", b, roomy(), api.ErrLong)
	data = strings.Repeat("packsaddle", 1<<21)[:1<<24]
	b = whole{parts: []part{right("n", data, kind{8, true})}}.bytes()
	wantRead(t, "1 << 24 bytes, deflated", b, roomy(), []api.Entry{{Name: "n", Time: smallEntries()[0].Time, Data: []byte(data)}})
	b = whole{parts: []part{right("n", data+"x", kind{8, true})}}.bytes()
	wantWrong(t, "1 << 24 and 1, deflated", b, roomy(), api.ErrLong)
	var w whole
	var want []api.Entry
	for i := range 65535 {
		name, data := fmt.Sprint(i), fmt.Sprint(-i)
		w.parts = append(w.parts, right(name, data, kind{0, i%2 == 1}))
		want = append(want, api.Entry{Name: name, Time: smallEntries()[0].Time, Data: []byte(data)})
	}
	b = w.bytes()
	wantRead(t, "65535 entries", b, roomy(), want)
	l := roomy()
	l.Entries--
	wantWrong(t, "65535 entries, one below", b, l, api.ErrMany)
}

// P13.1: each byte of small archives turned, in each bit and to some other values.
func TestReadTurned(t *testing.T) {
	eachSmall(func(what string, w func() whole) {
		good := w().bytes()
		for i := range good {
			for _, by := range []byte{1, 2, 4, 8, 16, 32, 64, 128, 255, 15, good[i], good[i] ^ '/', good[i] ^ '.'} {
				b := slices.Clone(good)
				b[i] ^= by
				e := wantAsTold(t, fmt.Sprint(what, " byte ", i, " turned by ", by), b, roomy())
				if e == api.OK && by != 0 && w().parts[0].central.method == 0 {
					t.Error(what, "read with byte", i, "turned by", by)
				}
			}
		}
	})
}

// P13.1: each cut of small archives, at either end, and each byte left out, put in, or told twice.
func TestReadCut(t *testing.T) {
	eachSmall(func(what string, w func() whole) {
		good := w().bytes()
		for i := range good {
			for name, b := range map[string][]byte{"cut at": good[:i], "cut ahead of": good[i+1:], "left out": slices.Delete(slices.Clone(good), i, i+1), "a nought ahead of": slices.Insert(slices.Clone(good), i, 0), "twice": slices.Insert(slices.Clone(good), i, good[i])} {
				if e := wantAsTold(t, fmt.Sprint(what, " ", name, " ", i), b, roomy()); e == api.OK {
					t.Error(what, name, i, "is read")
				}
			}
		}
	})
}

// fault is something wrong, with what is told of it.
type fault struct {
	what string
	want api.Errno
	make func(w *whole, p *part, l *api.Limits)
}

// faults are all that may be wrong, in the order in which they are told; of those from the place first on each is a single entry's, up to the last one. Each is added to what is there, so that several of them may be made, in any order.
func faults() (all []fault, first int) {
	all = []fault{
		{"limits", api.ErrArg, func(w *whole, p *part, l *api.Limits) { l.Bytes += 1 << 30 }},
		{"whole", api.ErrLong, func(w *whole, p *part, l *api.Limits) { l.Whole -= 9940 }},
		{"end's magic", api.ErrMagic, func(w *whole, p *part, l *api.Limits) { w.end[0] = 1 }},
		{"end's form", api.ErrForm, func(w *whole, p *part, l *api.Limits) { w.end[7] = 1 }},
		{"central records don't lead up to the end", api.ErrForm, func(w *whole, p *part, l *api.Limits) { w.end[5]++ }},
		{"many", api.ErrMany, func(w *whole, p *part, l *api.Limits) { l.Entries = 1 }},
		{"central magic", api.ErrMagic, func(w *whole, p *part, l *api.Limits) { p.central.magic = 1 }},
		{"central form", api.ErrForm, func(w *whole, p *part, l *api.Limits) { p.central.a = 1 }},
		{"bytes behind the central records", api.ErrForm, func(w *whole, p *part, l *api.Limits) { w.lastGap = "x"; w.end[5]++ }},
		{"place", api.ErrPlace, func(w *whole, p *part, l *api.Limits) { p.central.shift = 1 }},
		{"name", api.ErrName, func(w *whole, p *part, l *api.Limits) { p.named(p.central.name + "/..") }},
		{"moment", api.ErrRange, func(w *whole, p *part, l *api.Limits) { p.timed(api.Moment{}) }},
		{"twice", api.ErrTwice, func(w *whole, p *part, l *api.Limits) { p.named(strings.Replace(p.central.name, "second", "first", 1)) }},
		{"bytes", api.ErrLong, func(w *whole, p *part, l *api.Limits) { l.Bytes -= 1000 - (2*len(hello) - 1) }},
		{"local magic", api.ErrMagic, func(w *whole, p *part, l *api.Limits) { p.local.magic = 1 }},
		{"local form", api.ErrForm, func(w *whole, p *part, l *api.Limits) { p.local.nought = 1 }},
		{"local says another thing", api.ErrForm, func(w *whole, p *part, l *api.Limits) { p.local.clock++ }},
		{"too few bytes", api.ErrEnd, func(w *whole, p *part, l *api.Limits) { p.central.packed += 1000; p.behind[2] += 1000 }},
		{"magic behind", api.ErrMagic, func(w *whole, p *part, l *api.Limits) { p.behind[0] = 1 }},
		{"behind says another thing", api.ErrForm, func(w *whole, p *part, l *api.Limits) { p.behind[3] += 7 }},
		{"data", api.ErrBack, func(w *whole, p *part, l *api.Limits) {
			p.data = "\x03\x02" + strings.Repeat("\x00", len(p.data)-2)
		}},
		{"sum", api.ErrCheck, func(w *whole, p *part, l *api.Limits) { p.central.sum++; p.behind[1]++ }},
		{"place of the central records", api.ErrPlace, func(w *whole, p *part, l *api.Limits) { w.gap = "x" }},
	}
	return all, 9
}

// wrongly is an archive with some faults, each in an entry.
func wrongly(f []fault, at []int) ([]byte, api.Limits) {
	w := whole{parts: []part{right("first", hello, kind{8, true}), right("second", hello, kind{8, true}), right("third", hello, kind{8, true})}}
	l := api.Limits{Entries: 3, Bytes: 1000, Whole: 10000}
	for i, x := range f {
		x.make(&w, &w.parts[at[i]], &l)
	}
	return w.bytes(), l
}

// P13.1: of two errors the one comes first that the chapter names first, in one entry.
func TestReadFirst(t *testing.T) {
	all, _ := faults()
	for i, first := range all {
		b, l := wrongly([]fault{first}, []int{1})
		wantWrong(t, first.what, b, l, first.want)
		for _, second := range all[i+1:] {
			for _, pair := range [][]fault{{first, second}, {second, first}} {
				b, l := wrongly(pair, []int{1, 1})
				wantWrong(t, first.what+" and "+second.what, b, l, first.want)
			}
		}
	}
}

// P13.1: of two entries' errors the earlier entry's comes first; all central records come ahead of all entries, and that bytes are left there comes last.
func TestReadFirstEntry(t *testing.T) {
	all, first := faults()
	single := slices.DeleteFunc(slices.Clone(all[first:len(all)-1]), func(f fault) bool { return f.what == "twice" || f.what == "bytes" })
	for _, earlier := range single {
		for _, later := range single {
			for _, at := range [][]int{{0, 1}, {0, 2}, {1, 2}} {
				b, l := wrongly([]fault{earlier, later}, at)
				wantWrong(t, earlier.what+" ahead of "+later.what, b, l, earlier.want)
			}
		}
		for _, central := range all[6:8] {
			b, l := wrongly([]fault{earlier, central}, []int{0, 2})
			wantWrong(t, earlier.what+", and "+central.what+" behind it", b, l, central.want)
		}
	}
	for i, central := range all[6:8] {
		b, l := wrongly([]fault{central, all[7-i]}, []int{0, 2})
		wantWrong(t, central.what+" ahead of the other", b, l, central.want)
	}
}

// P13.1, P5: whatever is done to an archive, the answer is the one that the chapter tells.
func TestReadRandom(t *testing.T) {
	random := rand.New(rand.NewSource(1))
	read := 0
	for range 30000 {
		w, _ := anyArchive(random)
		b := w.bytes()
		l := roomy()
		for range random.Intn(3) {
			b = turnedSomewhere(random, b)
		}
		if random.Intn(4) == 0 {
			l = api.Limits{Entries: random.Intn(5), Bytes: random.Intn(200), Whole: len(b) + random.Intn(3) - 1}
		}
		if wantAsTold(t, "some archive", b, l) == api.OK {
			read++
		}
		if t.Failed() {
			t.Fatalf("%x %+v", b, l)
		}
	}
	if read < 3000 {
		t.Error("read only", read)
	}
}

// anyArchive is some archive that may be read.
func anyArchive(random *rand.Rand) (whole, []api.Entry) {
	var w whole
	var want []api.Entry
	for i := range random.Intn(5) {
		name := fmt.Sprint(strings.Repeat("d/", random.Intn(3)), i)
		data := strings.Repeat(string(rune('a'+random.Intn(26))), random.Intn(1<<random.Intn(7)))
		if random.Intn(5) == 0 {
			name, data = name+"/", ""
		}
		p := right(name, data, kind{8 * uint16(random.Intn(2)), random.Intn(2) == 0})
		m := api.Moment{Date: uint16(random.Intn(128)<<9 | (1+random.Intn(12))<<5 | 1 + random.Intn(28)), Clock: uint16(random.Intn(24)<<11 | random.Intn(60)<<5 | random.Intn(30))}
		p.timed(m)
		w.parts, want = append(w.parts, p), append(want, api.Entry{Name: name, Time: m, Data: []byte(data)})
	}
	return w, want
}

// turnedSomewhere is b with some bits or bytes of it turned, left out, put in, or told elsewhere too.
func turnedSomewhere(random *rand.Rand, b []byte) []byte {
	if len(b) == 0 {
		return b
	}
	out, at := slices.Clone(b), random.Intn(len(b))
	switch random.Intn(6) {
	case 0, 1:
		out[at] ^= 1 << random.Intn(8)
	case 2:
		out[at] = byte(random.Intn(256))
	case 3:
		return slices.Delete(out, at, min(at+1+random.Intn(8), len(out)))
	case 4:
		return slices.Insert(out, at, make([]byte, 1+random.Intn(4))...)
	default:
		from := random.Intn(len(b))
		copy(out[at:], b[from:min(from+1+random.Intn(8), len(b))])
	}
	return out
}

// P5: bytes without any order, with an end that leads somewhere behind them.
func TestReadNoise(t *testing.T) {
	random := rand.New(rand.NewSource(2))
	for range 20000 {
		b := make([]byte, random.Intn(1<<random.Intn(9)))
		random.Read(b)
		for range random.Intn(4) {
			magic := []string{"PK\x03\x04\x14\x00", "PK\x01\x02\x14\x00\x14\x00", "PK\x07\x08", "PK\x05\x06"}[random.Intn(4)]
			copy(b[random.Intn(len(b)+1):], magic+strings.Repeat("\x00", random.Intn(40)))
		}
		from, many := random.Intn(len(b)+1), uint32(random.Intn(4))
		b = numbers(numbers(append(b, "PK\x05\x06\x00\x00\x00\x00"...), 2, many, many), 4, uint32(len(b)-from), uint32(from))
		wantAsTold(t, "noise", append(b, 0, 0), roomy())
	}
}

// LANGUAGE 7: what is read shares memory neither with the bytes nor with what else is read.
func TestReadMemory(t *testing.T) {
	eachSmall(func(what string, w func() whole) {
		b := w().bytes()
		first, _ := zip.Read(b, roomy())
		second, _ := zip.Read(b, roomy())
		clear(b)
		if !same(first, smallEntries()) {
			t.Error(what, "hangs on the bytes")
		}
		for i := range first {
			data := first[i].Data[:cap(first[i].Data)]
			for j := range data {
				data[j] = 'X'
			}
		}
		clear(first)
		if !same(second, smallEntries()) {
			t.Error(what, "hangs on another answer")
		}
		third, _ := zip.Read(w().bytes(), roomy())
		_ = append(third[0].Data, "much more behind it"...)
		if !same(third, smallEntries()) {
			t.Error(what, "entries share memory")
		}
	})
}
