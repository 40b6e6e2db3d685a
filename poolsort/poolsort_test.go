package poolsort_test

import (
	"math"
	"math/rand"
	"slices"
	"strconv"
	"strings"
	"testing"

	"packsaddle/api"
	"packsaddle/pool"
	"packsaddle/poolsort"
)

func text(s string) api.Value   { return api.Value{Tag: api.TagText, Text: s} }
func class(s string) api.Value  { return api.Value{Tag: api.TagClass, Text: s} }
func quote(s string) api.Value  { return api.Value{Tag: api.TagString, Text: s} }
func number(n uint64) api.Value { return api.Value{Tag: api.TagInt, Bits: n} }
func long(n uint64) api.Value   { return api.Value{Tag: api.TagLong, Bits: n} }

func pair(name, desc string) api.Value {
	return api.Value{Tag: api.TagPair, Name: name, Desc: desc}
}

func member(tag int, class, name, desc string) api.Value {
	return api.Value{Tag: tag, Class: class, Name: name, Desc: desc}
}

// P19.1: the chapter's example.
func TestExample(t *testing.T) {
	p, e := poolsort.New(nil, []api.Value{class("a")})
	if e != api.OK || p.Number(text("a")) != 1 || p.Number(class("a")) != 2 {
		t.Errorf("text %d, class %d, error %d", p.Number(text("a")), p.Number(class("a")), e)
	}
	if want := []api.Raw{{}, {Tag: 1, Text: "a"}, {Tag: 7, A: 1}}; !slices.Equal(p.Raw(), want) {
		t.Errorf("%v, want %v", p.Raw(), want)
	}
}

// P19.1: what a value of each tag needs, in the order told.
func TestNeeds(t *testing.T) {
	for _, w := range []struct {
		v    api.Value
		want []api.Value
	}{
		{api.Value{}, nil}, {text("a"), nil}, {number(1), nil}, {api.Value{Tag: 4, Bits: 1}, nil}, {long(1), nil}, {api.Value{Tag: 6}, nil},
		{class("a"), []api.Value{text("a")}},
		{quote("a"), []api.Value{text("a")}},
		{class(""), []api.Value{text("")}},
		{pair("a", "b"), []api.Value{text("a"), text("b")}},
		{pair("b", "a"), []api.Value{text("b"), text("a")}},
		{pair("a", "a"), []api.Value{text("a"), text("a")}},
		{pair("", ""), []api.Value{text(""), text("")}},
		{member(9, "c", "b", "a"), []api.Value{class("c"), pair("b", "a")}},
		{member(10, "a", "b", "c"), []api.Value{class("a"), pair("b", "c")}},
		{member(11, "a", "", "a"), []api.Value{class("a"), pair("", "a")}},
	} {
		if got := poolsort.Needs(w.v); !slices.Equal(got, w.want) {
			t.Errorf("%v: %v, want %v", w.v, got, w.want)
		}
	}
	for tag := -300; tag < 300; tag++ {
		v := api.Value{Tag: tag, Text: "t", Bits: 5, Class: "c", Name: "n", Desc: "d"}
		if got, want := poolsort.Needs(v), modelNeeds(v); !slices.Equal(got, want) {
			t.Errorf("%v: %v, want %v", v, got, want)
		}
	}
}

// P19.1, P19.2: a pool with all tags, of which the low ones stand first, by numbers made by hand.
func TestOrder(t *testing.T) {
	low := []api.Value{quote("z"), long(7), text("m"), quote("y"), number(9), long(7), quote("z")}
	all := []api.Value{
		member(11, "C", "n", "d"), member(10, "B", "n", "d"), member(9, "B", "a", "d"),
		{Tag: 6, Bits: 1 << 63}, {Tag: 6}, {Tag: 4, Bits: 1}, long(8), long(7), number(0), number(10), quote("y"), class("m"), class("B"),
	}
	want := []api.Raw{
		{}, // the low ones stand ahead of their own texts, which aren't low themselves
		{Tag: 1, Text: "m"}, {Tag: 3, Bits: 9}, {Tag: 5, Bits: 7}, {}, {Tag: 8, A: 12}, {Tag: 8, A: 13},
		{Tag: 1, Text: "B"}, {Tag: 1, Text: "C"}, {Tag: 1, Text: "a"}, {Tag: 1, Text: "d"}, {Tag: 1, Text: "n"}, {Tag: 1, Text: "y"}, {Tag: 1, Text: "z"}, // from 7 on
		{Tag: 3, Bits: 0}, {Tag: 3, Bits: 10}, {Tag: 4, Bits: 1}, // from 14 on
		{Tag: 5, Bits: 8}, {}, {Tag: 6}, {}, {Tag: 6, Bits: 1 << 63}, {}, // from 17 on
		{Tag: 7, A: 7}, {Tag: 7, A: 8}, {Tag: 7, A: 1}, // from 23 on
		{Tag: 9, A: 23, B: 29}, {Tag: 10, A: 23, B: 30}, {Tag: 11, A: 24, B: 30}, // from 26 on
		{Tag: 12, A: 9, B: 10}, {Tag: 12, A: 11, B: 10}, // from 29 on
	}
	p, e := poolsort.New(low, all)
	if e != api.OK || !slices.Equal(p.Raw(), want) {
		t.Errorf("%v, error %d, want %v", p.Raw(), e, want)
	}
	wantPool(t, low, all)
	wantPool(t, all, low)
	wantPool(t, slices.Concat(low, all), nil)
	wantPool(t, nil, slices.Concat(all, low, all))
	wantPool(t, low, slices.Concat(low, all))
	wantPool(t, low, nil)
}

// P19.1: the same values have the same pool, in whatever order and how often they stand.
func TestSame(t *testing.T) {
	r := rand.New(rand.NewSource(19))
	var low, all []api.Value
	for i := range 100 {
		s := strconv.Itoa(i)
		low = append(low, quote(s), number(uint64(1000-i)), class(strings.Repeat("x", i)))
		all = append(all, member(9+i%3, s, "n"+s, "d"), long(uint64(i*i%31)))
	}
	p, e := poolsort.New(low, all)
	if e != api.OK {
		t.Fatalf("error %d", e)
	}
	want := p.Raw()
	for range 20 {
		more := append(all, all[r.Intn(len(all))], low[r.Intn(len(low))], text("d"))
		moreLow := append(low, low[r.Intn(len(low))])
		r.Shuffle(len(more), func(i, j int) { more[i], more[j] = more[j], more[i] })
		r.Shuffle(len(moreLow), func(i, j int) { moreLow[i], moreLow[j] = moreLow[j], moreLow[i] })
		p, e := poolsort.New(moreLow, more)
		if e != api.OK || !slices.Equal(p.Raw(), want) {
			t.Fatalf("another pool, error %d", e)
		}
		low, all = moreLow, more
	}
}

// P19.1: texts stand by their bytes, not by their units, and numbers without a sign.
func TestBytesOrder(t *testing.T) {
	rising := []api.Value{text(""), text("\x00"), text("A"), text("AA"), text("a"), text("a\xc0\x80"), text("b"), text("\xc0\x80"), text("\xff"), number(0), number(1), number(1 << 31), number(1<<32 - 1), long(1), long(1<<63 - 1), long(1 << 63), long(math.MaxUint64)}
	back := slices.Clone(rising)
	slices.Reverse(back)
	for _, lists := range [][2][]api.Value{{back, nil}, {nil, back}} {
		p, e := poolsort.New(lists[0], lists[1])
		if e != api.OK {
			t.Fatalf("error %d", e)
		}
		for i := range rising[1:] {
			if p.Number(rising[i]) >= p.Number(rising[i+1]) {
				t.Errorf("%v isn't ahead of %v", rising[i], rising[i+1])
			}
		}
		wantPool(t, lists[0], lists[1])
	}
}

// P19.1: nothing at all, and pools that are none.
func TestNone(t *testing.T) {
	for _, l := range [][]api.Value{nil, {}} {
		p, e := poolsort.New(l, l)
		if e != api.OK || p == nil || !slices.Equal(p.Raw(), []api.Raw{{}}) || p.Number(text("")) != 0 || p.Number(api.Value{}) != 0 {
			t.Errorf("%v, error %d", p.Raw(), e)
		}
	}
	for _, p := range []*poolsort.Pool{nil, {}} {
		for tag := range 14 {
			if n := p.Number(api.Value{Tag: tag}); n != 0 {
				t.Errorf("number %d", n)
			}
		}
		if l := p.Raw(); len(l) != 0 {
			t.Errorf("%v", l)
		}
	}
}

// P19.1: what isn't there has no number, were it but for one thing.
func TestNumber(t *testing.T) {
	there := []api.Value{text("a"), number(5), long(5), class("a"), quote("a"), member(9, "a", "b", "c"), pair("b", "c")}
	p, e := poolsort.New(there[:2], there)
	if e != api.OK {
		t.Fatalf("error %d", e)
	}
	wantValues(t, p, modelValues(there[:2], there))
	for _, v := range there {
		for _, change := range []func(v *api.Value){
			func(v *api.Value) { v.Tag = -v.Tag },
			func(v *api.Value) { v.Tag += 256 },
			func(v *api.Value) { v.Tag = 0 },
			func(v *api.Value) { v.Tag = 6 },
			func(v *api.Value) { v.Text += "b" },
			func(v *api.Value) { v.Bits += 1 },
			func(v *api.Value) { v.Bits += 1 << 32 },
			func(v *api.Value) { v.Class += "b" },
			func(v *api.Value) { v.Name += "b" },
			func(v *api.Value) { v.Desc += "b" },
		} {
			other := v
			change(&other)
			if n := p.Number(other); n != 0 {
				t.Errorf("%v: number %d", other, n)
			}
		}
	}
}

// P19.1: each tag, with all that it may have, and may not.
func TestKinds(t *testing.T) {
	for tag := -20; tag < 300; tag++ {
		for bits := range 64 {
			v := api.Value{Tag: tag, Bits: uint64(bits&1) + uint64(bits>>1&1)<<32}
			for i, letter := range []byte("tcnd") {
				if bits>>(i+2)&1 > 0 {
					*textOf(&v, letter) = "a"
				}
			}
			wantPool(t, nil, []api.Value{v})
			wantPool(t, []api.Value{v}, nil)
			wantPool(t, []api.Value{text("a"), v}, []api.Value{number(1)})
		}
	}
	for _, tag := range []int{math.MinInt, math.MaxInt, 1<<32 + 1, -1 << 32} {
		wantPool(t, nil, []api.Value{{Tag: tag}})
	}
}

// P19.1: texts are taken as they are, right rows or not, however long.
func TestTexts(t *testing.T) {
	for _, s := range []string{"", "\x00", "\xff\xfe", strings.Repeat("x", 65535), strings.Repeat("x", 65536), strings.Repeat("\xff", 1<<20)} {
		p, e := poolsort.New([]api.Value{quote(s)}, []api.Value{member(10, s, s, s)})
		want := []api.Raw{{}, {Tag: 8, A: 2}, {Tag: 1, Text: s}, {Tag: 7, A: 2}, {Tag: 10, A: 3, B: 5}, {Tag: 12, A: 2, B: 2}}
		if e != api.OK || !slices.Equal(p.Raw(), want) {
			t.Errorf("%d bytes: error %d, or another pool", len(s), e)
		}
	}
}

// P19.1: numbers of 32 bits, and of 64.
func TestRange(t *testing.T) {
	for _, bits := range []uint64{0, 1, 1<<31 - 1, 1 << 31, 1<<32 - 1, 1 << 32, 1<<32 + 1, 1<<63 - 1, 1 << 63, math.MaxUint64} {
		for tag := api.TagInt; tag <= api.TagDouble; tag++ {
			v := api.Value{Tag: tag, Bits: bits}
			_, e := poolsort.New([]api.Value{v}, nil)
			if (e == api.ErrRange) != (tag < api.TagLong && bits > 0xffffffff) {
				t.Errorf("%v: error %d", v, e)
			}
			wantPool(t, []api.Value{v}, nil)
			wantPool(t, nil, []api.Value{v})
		}
	}
}

// P19.1: the low ones' errors come first, in order, then the others'; of one value's the kind.
func TestFirst(t *testing.T) {
	good, kind, beyond := text("a"), api.Value{Tag: 2}, number(1<<32)
	for _, w := range []struct {
		low, all []api.Value
		e        api.Errno
	}{
		{[]api.Value{good, kind, beyond}, nil, api.ErrKind},
		{[]api.Value{good, beyond, kind}, nil, api.ErrRange},
		{nil, []api.Value{good, kind, beyond}, api.ErrKind},
		{nil, []api.Value{good, beyond, kind}, api.ErrRange},
		{[]api.Value{good, beyond}, []api.Value{kind}, api.ErrRange},
		{[]api.Value{good, kind}, []api.Value{beyond}, api.ErrKind},
		{[]api.Value{good}, []api.Value{good, kind}, api.ErrKind},
		{nil, []api.Value{{Tag: api.TagInt, Bits: 1 << 32, Text: "a"}}, api.ErrKind},
		{nil, []api.Value{{Tag: api.TagFloat, Bits: 1 << 32, Desc: "a"}, beyond}, api.ErrKind},
	} {
		if p, e := poolsort.New(w.low, w.all); p != nil || e != w.e {
			t.Errorf("%v, %v: %v, error %d", w.low, w.all, p, e)
		}
		wantPool(t, w.low, w.all)
	}
}

// many are so many values of a tag, all unlike.
func many(tag, n int) []api.Value {
	out := make([]api.Value, n)
	for i := range out {
		out[i].Tag = tag
		switch tag {
		case api.TagText, api.TagClass, api.TagString:
			out[i].Text = strconv.Itoa(i)
		case api.TagPair, api.TagField:
			out[i].Name = strconv.Itoa(i)
		default:
			out[i].Bits = uint64(i)
		}
	}
	return out
}

// P19.1: at most 65535 numbers, with number 0, with those behind wide ones, and with those of all that is needed.
func TestMany(t *testing.T) {
	const most = 65535
	for _, w := range []struct {
		low, all []api.Value
		numbers  int
	}{
		{nil, many(api.TagInt, 65533), 65534},
		{nil, many(api.TagInt, 65534), 65535},
		{nil, many(api.TagInt, 65535), 65536},
		{nil, many(api.TagInt, 65536), 65537},
		{nil, many(api.TagInt, 70000), 70001},
		{many(api.TagText, 65534), nil, 65535},
		{many(api.TagText, 65535), nil, 65536},
		{many(api.TagText, 30000), many(api.TagInt, 35534), 65535},
		{many(api.TagText, 30000), many(api.TagInt, 35535), 65536},
		{many(api.TagText, 65534), many(api.TagText, 65534), 65535},
		{nil, many(api.TagLong, 32767), 65535},
		{many(api.TagDouble, 32767), nil, 65535},
		{nil, many(api.TagLong, 32768), 65537},
		{nil, append(many(api.TagLong, 32767), text("")), 65536},
		{[]api.Value{text("")}, many(api.TagLong, 32767), 65536},
		{nil, many(api.TagClass, 32767), 65535},
		{many(api.TagString, 32767), nil, 65535},
		{many(api.TagString, 32767), []api.Value{text("1")}, 65535},
		{many(api.TagString, 32767), []api.Value{text("x")}, 65536},
		{nil, many(api.TagClass, 32768), 65537},
		{many(api.TagClass, 21844), many(api.TagString, 21844), 65533},
		{many(api.TagClass, 21845), many(api.TagString, 21845), 65536},
		{nil, many(api.TagPair, 32766), 65534}, // each a text, and the empty one
		{nil, append(many(api.TagPair, 32766), number(1)), 65535},
		{nil, many(api.TagPair, 32767), 65536},
		{nil, many(api.TagField, 21843), 65532}, // each a text and a pair, and the empty text and class
		{nil, append(many(api.TagField, 21843), many(api.TagInt, 3)...), 65535},
		{nil, append(many(api.TagField, 21843), many(api.TagInt, 4)...), 65536},
	} {
		p, e := poolsort.New(w.low, w.all)
		if w.numbers > most {
			if p != nil || e != api.ErrMany {
				t.Errorf("%d numbers: error %d", w.numbers, e)
			}
			continue
		}
		if e != api.OK || len(p.Raw()) != w.numbers || !pool.Holds(p.Raw()) {
			t.Errorf("%d numbers: %d, error %d", w.numbers, len(p.Raw()), e)
		}
	}
}

// P19.1: that there are too many comes behind all other errors.
func TestManyLast(t *testing.T) {
	tooMany := many(api.TagInt, 70000)
	for _, w := range []struct {
		v api.Value
		e api.Errno
	}{{api.Value{}, api.ErrKind}, {number(1 << 32), api.ErrRange}, {number(1), api.ErrMany}} {
		for _, lists := range [][2][]api.Value{{append(tooMany, w.v), nil}, {nil, append(tooMany, w.v)}, {tooMany, {w.v}}, {{w.v}, tooMany}} {
			if p, e := poolsort.New(lists[0], lists[1]); p != nil || e != w.e {
				t.Errorf("%v: error %d", w.v, e)
			}
		}
	}
}

// P19.1: like values are one, however often they stand.
func TestOften(t *testing.T) {
	l := slices.Repeat([]api.Value{class("a"), text("a"), long(1)}, 40000)
	p, e := poolsort.New(l[:60000], l)
	if want := []api.Raw{{}, {Tag: 1, Text: "a"}, {Tag: 5, Bits: 1}, {}, {Tag: 7, A: 1}}; e != api.OK || !slices.Equal(p.Raw(), want) {
		t.Errorf("%v, error %d", short(p.Raw()), e)
	}
}

// P19.2: values put together at random, of few texts, so that they need the same ones, and of all tags.
func TestRandom(t *testing.T) {
	r := rand.New(rand.NewSource(91))
	texts := []string{"", "a", "b", "ab", "\xc0\x80", "\xff", "java/lang/Object"}
	pick := func() string { return texts[r.Intn(len(texts))] }
	row := func(most int) []api.Value {
		var out []api.Value
		for range r.Intn(most + 1) {
			v := api.Value{Tag: []int{1, 3, 4, 5, 6, 7, 8, 9, 10, 11, 12}[r.Intn(11)]}
			for _, letter := range []byte(kinds[v.Tag].has) {
				if letter == 'b' {
					v.Bits = uint64(r.Intn(4)) << (8 * r.Intn(4))
				} else {
					*textOf(&v, letter) = pick()
				}
			}
			out = append(out, v)
		}
		return out
	}
	for range 3000 {
		wantPool(t, row(6), row(20))
		wantPool(t, row(1), row(3))
	}
}

// P19.2: a pool as great as may be, number by number.
func TestGreat(t *testing.T) {
	var low []api.Value
	for i := range 2000 {
		low = append(low, quote(strconv.Itoa(i)))
	}
	all := slices.Concat(many(api.TagField, 15000), many(api.TagLong, 5000))
	p, e := poolsort.New(low, all)
	if e != api.OK {
		t.Fatalf("error %d", e)
	}
	raw := p.Raw()
	if !pool.Holds(raw) {
		t.Fatal("it doesn't hold")
	}
	seen := 0
	for n := range raw {
		v, e := pool.Value(raw, n)
		if e == api.ErrRange {
			continue // number 0, or one behind a wide one
		}
		if e != api.OK || p.Number(v) != n {
			t.Fatalf("number %d: %v, error %d, number %d", n, v, e, p.Number(v))
		}
		seen++
	}
	for _, v := range slices.Concat(low, all) {
		n := p.Number(v)
		if got, e := pool.Value(raw, n); e != api.OK || got != v {
			t.Fatalf("%v: number %d has %v, error %d", v, n, got, e)
		}
	}
	// The texts are those of the 15000 fields, of which the strings have 2000, and the empty one, that is the class's, too.
	if want := 2000 + 15000 + 15000 + 15000 + 1 + 1 + 5000; seen != want || len(raw) != want+5000+1 {
		t.Errorf("%d values, %d numbers, want %d", seen, len(raw), want)
	}
}

// P19.1: answers are new memory, and hang no more on what was handed in.
func TestMemory(t *testing.T) {
	low, all := []api.Value{quote("a")}, []api.Value{class("b"), long(5)}
	p, e := poolsort.New(low, all)
	want := modelValues(low, all)
	clear(low)
	clear(all)
	if e != api.OK {
		t.Fatalf("error %d", e)
	}
	wantValues(t, p, want)
	clear(p.Raw())
	wantValues(t, p, want)
	for _, v := range []api.Value{class("b"), pair("a", "b"), member(9, "a", "b", "c")} {
		clear(poolsort.Needs(v))
		if got := poolsort.Needs(v); !slices.Equal(got, modelNeeds(v)) {
			t.Errorf("%v: %v", v, got)
		}
	}
}
