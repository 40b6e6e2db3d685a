package pool_test

import (
	"math"
	"math/rand"
	"slices"
	"testing"

	"packsaddle/api"
	"packsaddle/pool"
)

// P16.1: a value of each tag, by its numbers.
func TestValues(t *testing.T) {
	const b = "\xc0\x80\xe1\x88\xb4"
	for i, want := range []api.Value{
		{},
		{Tag: 1, Text: "a"},
		{Tag: 7, Text: "a"},
		{Tag: 5, Bits: 1<<63 + 5},
		{},
		{Tag: 1, Text: b},
		{Tag: 12, Name: "a", Desc: b},
		{Tag: 9, Class: "a", Name: "a", Desc: b},
		{Tag: 10, Class: "a", Name: "a", Desc: b},
		{Tag: 11, Class: "a", Name: "a", Desc: b},
		{Tag: 8, Text: b},
		{Tag: 3, Bits: 1<<31 + 2},
		{Tag: 4, Bits: 3},
		{Tag: 1},
		{Tag: 6, Bits: 0x0123456789abcdef},
		{},
	} {
		wantE := api.OK
		if want.Tag == 0 {
			wantE = api.ErrRange
		}
		for _, tags := range [][]int{nil, {}, {want.Tag}, {2, want.Tag, 99}} {
			if got, e := pool.Value(whole(), i, tags...); got != want || e != wantE {
				t.Errorf("number %d, tags %v: %v, error %d", i, tags, got, e)
			}
		}
	}
}

// P16.1: numbers that aren't there, or are none, and tags that are told.
func TestValueWrong(t *testing.T) {
	for _, i := range []int{math.MinInt, -1, 0, 4, 15, 16, 17, 65535, 65536, math.MaxInt} {
		for _, tags := range [][]int{nil, {0}, {1}, {99}} {
			if v, e := pool.Value(whole(), i, tags...); v != (api.Value{}) || e != api.ErrRange {
				t.Errorf("number %d, tags %v: %v, error %d", i, tags, v, e)
			}
		}
	}
	if _, e := pool.Value(nil, 0); e != api.ErrRange {
		t.Errorf("no pool: error %d", e)
	}
	for i, r := range whole() {
		if r.Tag == 0 {
			continue
		}
		for tag := -1; tag < 15; tag++ {
			wantValue(t, whole(), i, tag)
			wantValue(t, whole(), i, tag, 3)
			wantValue(t, whole(), i, 1, 7, tag)
			if _, e := pool.Value(whole(), i, tag); (e == api.ErrKind) != (tag != r.Tag) {
				t.Errorf("number %d, tag %d: error %d", i, tag, e)
			}
		}
	}
}

// P16.1: number 0 is none, whatever it is, so that nothing leads to it.
func TestNumberNought(t *testing.T) {
	l := []api.Raw{{Tag: api.TagText, Text: "a"}, {Tag: api.TagClass, A: 0}}
	if _, e := pool.Value(l, 0); e != api.ErrRange {
		t.Errorf("error %d", e)
	}
	if v, e := pool.Value(l, 1); e != api.ErrKind || v != (api.Value{}) {
		t.Errorf("%v, error %d", v, e)
	}
	wantPool(t, l)
}

// P16.1: one number of a pool is another one: with another tag, leading elsewhere, or with what it hasn't.
func TestChanged(t *testing.T) {
	for i := range whole() {
		for tag := -1; tag < 15; tag++ {
			for to := -1; to < len(whole())+1; to++ {
				l := whole()
				l[i] = api.Raw{Tag: tag, Text: "t", A: to, B: 6}
				wantPool(t, l)
				l[i] = api.Raw{Tag: tag, Text: "t", A: 2, B: to}
				wantPool(t, l)
				l[i] = api.Raw{Tag: tag, Text: "t", A: 1, B: to}
				wantPool(t, l)
			}
		}
	}
}

// P16.1: what holds, and what doesn't.
func TestHolds(t *testing.T) {
	a := api.Raw{Tag: api.TagText, Text: "a"}
	long := api.Raw{Tag: api.TagLong, Bits: 5}
	double := api.Raw{Tag: api.TagDouble}
	for _, w := range []struct {
		holds bool
		l     []api.Raw
	}{
		{false, nil}, {true, []api.Raw{{}}},
		{false, []api.Raw{a}}, {false, []api.Raw{{Text: "a"}}}, {false, []api.Raw{{Bits: 1}}}, {false, []api.Raw{{A: 1}}}, {false, []api.Raw{{B: 1}}}, {false, []api.Raw{{Tag: 99}}},
		{true, []api.Raw{{}, a}}, {true, []api.Raw{{}, {Tag: api.TagInt}, {Tag: api.TagFloat}}},
		{false, []api.Raw{{}, long}}, {false, []api.Raw{{}, double}}, {false, []api.Raw{{}, a, long}},
		{true, []api.Raw{{}, long, {}}}, {true, []api.Raw{{}, double, {}, long, {}, a}},
		{false, []api.Raw{{}, long, a}}, {false, []api.Raw{{}, long, long, {}}}, {false, []api.Raw{{}, long, {A: 1}}}, {false, []api.Raw{{}, double, {}, long}},
		{false, []api.Raw{long, {}}}, {false, []api.Raw{{}, {}}}, {false, []api.Raw{{}, long, {}, {}}}, {false, []api.Raw{{}, {Tag: 2}}}, {false, []api.Raw{{}, a, {Tag: 13}}},
		{true, []api.Raw{{}, a, {Tag: api.TagClass, A: 1}}}, {true, []api.Raw{{}, {Tag: api.TagString, A: 2}, a}}, {true, []api.Raw{{}, {Tag: api.TagPair, A: 2, B: 2}, a}},
		{false, []api.Raw{{}, a, {Tag: api.TagClass, A: 2}}}, {false, []api.Raw{{}, a, {Tag: api.TagString}}}, {false, []api.Raw{{}, a, {Tag: api.TagClass, A: 3}}}, {false, []api.Raw{{}, a, {Tag: api.TagClass, A: -1}}},
		{false, []api.Raw{{}, a, {Tag: api.TagPair, A: 1}}}, {false, []api.Raw{{}, a, {Tag: api.TagPair, B: 1}}}, {false, []api.Raw{{}, long, {}, {Tag: api.TagClass, A: 2}}},
		{true, []api.Raw{{}, {Tag: api.TagField, A: 4, B: 3}, a, {Tag: api.TagPair, A: 2, B: 2}, {Tag: api.TagClass, A: 2}}},
		{false, []api.Raw{{}, {Tag: api.TagField, A: 3, B: 4}, a, {Tag: api.TagPair, A: 2, B: 2}, {Tag: api.TagClass, A: 2}}},
		{false, []api.Raw{{}, {Tag: api.TagMethod, A: 4, B: 3}, a, {Tag: api.TagPair, A: 2, B: 2}, {Tag: api.TagString, A: 2}}},
		{false, []api.Raw{{}, {Tag: api.TagInterface, A: 4, B: 2}, a, {Tag: api.TagPair, A: 2, B: 2}, {Tag: api.TagClass, A: 2}}},
		{false, []api.Raw{{}, {Tag: api.TagMethod, A: 1, B: 1}}},
	} {
		if got := pool.Holds(w.l); got != w.holds {
			t.Errorf("%v: %v", w.l, got)
		}
		wantPool(t, w.l)
	}
}

// P16.1: small pools put together at random, of which many hold.
func TestRandomPools(t *testing.T) {
	r := rand.New(rand.NewSource(61))
	holds := 0
	for range 100000 {
		l := []api.Raw{{}, {Tag: 1, Text: "a"}, {Tag: 7, A: 1}, {Tag: 12, A: 1, B: 1}}
		for range r.Intn(5) {
			l = append(l, api.Raw{Tag: []int{0, 1, 1, 5, 6, 7, 8, 9, 10, 11, 12, 12, 13}[r.Intn(13)], A: 1 + r.Intn(3)})
			last := &l[len(l)-1]
			switch {
			case last.Tag == 5 || last.Tag == 6:
				l = append(l, api.Raw{})
			case last.Tag > 8 && last.Tag < 12:
				last.A, last.B = 2, 3+r.Intn(2)*r.Intn(4)
			case last.Tag > 6 && r.Intn(3) > 0:
				last.A, last.B = 1, 1
			case last.Tag == 0:
				last.A = 0
			}
		}
		wantPool(t, l)
		if pool.Holds(l) {
			holds++
		}
	}
	if holds < 10000 || holds > 90000 {
		t.Errorf("%d hold", holds)
	}
}

// P16.1: values are held against each other by their tags first, then by each field in turn, texts by their bytes.
func TestCompare(t *testing.T) {
	rising := []api.Value{
		{Tag: math.MinInt, Text: "z", Bits: 9, Class: "z", Name: "z", Desc: "z"},
		{Tag: -1, Text: "z"},
		{},
		{Tag: 1},
		{Tag: 1, Desc: "z"},
		{Tag: 1, Name: "a"},
		{Tag: 1, Name: "a", Desc: "a"},
		{Tag: 1, Class: "a"},
		{Tag: 1, Class: "a", Name: "a"},
		{Tag: 1, Class: "b"},
		{Tag: 1, Bits: 1},
		{Tag: 1, Bits: 1, Class: "a"},
		{Tag: 1, Bits: 2},
		{Tag: 1, Bits: 1 << 32},
		{Tag: 1, Bits: 1<<63 - 1},
		{Tag: 1, Bits: 1 << 63},
		{Tag: 1, Bits: math.MaxUint64, Class: "z", Name: "z", Desc: "z"},
		{Tag: 1, Text: "\x00"},
		{Tag: 1, Text: "A"},
		{Tag: 1, Text: "A", Bits: 1},
		{Tag: 1, Text: "AA"},
		{Tag: 1, Text: "B"},
		{Tag: 1, Text: "a"},
		{Tag: 1, Text: "aZ"},
		{Tag: 1, Text: "a\xc0\x80"},
		{Tag: 1, Text: "b"},
		{Tag: 1, Text: "\xc0\x80"}, // by bytes, not by units
		{Tag: 1, Text: "\xe1\x88\xb4"},
		{Tag: 1, Text: "\xff"},
		{Tag: 2},
		{Tag: 10},
		{Tag: 12, Name: "a", Desc: "z"},
		{Tag: 12, Name: "b", Desc: "a"},
		{Tag: math.MaxInt},
	}
	for i, a := range rising {
		for j, b := range rising {
			got := pool.Compare(a, b)
			if (got < 0) != (i < j) || (got > 0) != (i > j) {
				t.Errorf("%v and %v: %d", a, b, got)
			}
		}
	}
}

// P16.1: all values of few fields' values, against each field by itself.
func TestCompareAll(t *testing.T) {
	var all []api.Value
	texts := []string{"", "a"}
	for n := range 64 {
		all = append(all, api.Value{Tag: n & 1, Text: texts[n>>1&1], Bits: uint64(n >> 2 & 1), Class: texts[n>>3&1], Name: texts[n>>4&1], Desc: texts[n>>5&1]})
	}
	for _, a := range all {
		for _, b := range all {
			got, want := pool.Compare(a, b), modelCompare(a, b)
			if (got < 0) != (want < 0) || (got > 0) != (want > 0) {
				t.Errorf("%v and %v: %d", a, b, got)
			}
		}
	}
}

// P16.1: two tags' constants have two numbers.
func TestWide(t *testing.T) {
	for _, tag := range slices.Concat([]int{math.MinInt, math.MaxInt, 256 + 5, 65536 + 6, 1<<32 + 5}, count(-300, 300)) {
		if got := pool.Wide(tag); got != (tag == 5 || tag == 6) {
			t.Errorf("%d: %v", tag, got)
		}
	}
}

func count(from, till int) []int {
	var out []int
	for n := from; n < till; n++ {
		out = append(out, n)
	}
	return out
}
