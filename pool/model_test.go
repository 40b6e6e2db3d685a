package pool_test

import (
	"cmp"
	"slices"
	"testing"

	"packsaddle/api"
	"packsaddle/cursor"
	"packsaddle/pool"
	"packsaddle/utf"
)

// What the chapter tells, by a table: of each tag, how many bytes stand behind it (of a text, how many its length has), and what tags its A and B lead to.

type kind struct {
	bytes int
	leads []int
}

var kinds = map[int]kind{
	1: {2, nil}, 3: {4, nil}, 4: {4, nil}, 5: {8, nil}, 6: {8, nil},
	7: {2, []int{1}}, 8: {2, []int{1}},
	9: {4, []int{7, 12}}, 10: {4, []int{7, 12}}, 11: {4, []int{7, 12}}, 12: {4, []int{1, 1}},
}

// number is what bytes say, the highest first.
func number(b []byte) uint64 {
	n := uint64(0)
	for _, x := range b {
		n = n*256 + uint64(x)
	}
	return n
}

// modelRead reads a pool by its bytes' places, and tells where it ends.
func modelRead(b []byte) ([]api.Raw, int, api.Errno) {
	if len(b) < 2 {
		return nil, 0, api.ErrEnd
	}
	many, at := int(number(b[:2])), 2
	if many == 0 {
		return nil, 0, api.ErrForm
	}
	out := make([]api.Raw, many)
	for i := 1; i < many; i++ {
		if at == len(b) {
			return nil, 0, api.ErrEnd
		}
		tag := int(b[at])
		k, known := kinds[tag]
		if !known {
			return nil, 0, api.ErrKind
		}
		from, till := at+1, at+1+k.bytes
		if till > len(b) {
			return nil, 0, api.ErrEnd
		}
		r := api.Raw{Tag: tag}
		switch {
		case tag == 1:
			from, till = till, till+int(number(b[from:till]))
			if till > len(b) {
				return nil, 0, api.ErrEnd
			}
			r.Text = string(b[from:till])
			if !utf.Right(r.Text) {
				return nil, 0, api.ErrForm
			}
		case k.leads == nil:
			r.Bits = number(b[from:till])
		case len(k.leads) == 1:
			r.A = int(number(b[from:till]))
		default:
			r.A, r.B = int(number(b[from:from+2])), int(number(b[from+2:till]))
		}
		out[i], at = r, till
		if k.bytes == 8 {
			i++
		}
		if i >= many {
			return nil, 0, api.ErrForm
		}
	}
	return out, at, api.OK
}

// modelBytes puts byte by byte.
func modelBytes(l []api.Raw) []byte {
	var out []byte
	put := func(n uint64, bytes int) {
		for i := bytes - 1; i >= 0; i-- {
			out = append(out, byte(n>>(8*i)))
		}
	}
	put(uint64(len(l)), 2)
	for i, r := range l {
		k, known := kinds[r.Tag]
		if i == 0 || !known {
			continue
		}
		out = append(out, byte(r.Tag))
		switch {
		case r.Tag == 1:
			put(uint64(len(r.Text)), 2)
			out = append(out, r.Text...)
		case k.leads == nil:
			put(r.Bits, k.bytes)
		default:
			put(uint64(r.A), 2)
			if len(k.leads) == 2 {
				put(uint64(r.B), 2)
			}
		}
	}
	return out
}

// leadsRight asks whether a number is of that tag, and leads to what it should, and so on.
func leadsRight(l []api.Raw, i, tag int) bool {
	if i < 1 || i >= len(l) || l[i].Tag != tag {
		return false
	}
	k, known := kinds[tag]
	for n, next := range k.leads {
		if !leadsRight(l, []int{l[i].A, l[i].B}[n], next) {
			return false
		}
	}
	return known
}

func modelValue(l []api.Raw, i int, tags ...int) (api.Value, api.Errno) {
	if i < 1 || i >= len(l) || l[i].Tag == 0 {
		return api.Value{}, api.ErrRange
	}
	r := l[i]
	if tags != nil && !slices.Contains(tags, r.Tag) || !leadsRight(l, i, r.Tag) {
		return api.Value{}, api.ErrKind
	}
	v := api.Value{Tag: r.Tag}
	switch r.Tag {
	case 1:
		v.Text = r.Text
	case 3, 4, 5, 6:
		v.Bits = r.Bits
	case 7, 8:
		v.Text = l[r.A].Text
	case 9, 10, 11:
		v.Class, v.Name, v.Desc = l[l[r.A].A].Text, l[l[r.B].A].Text, l[l[r.B].B].Text
	case 12:
		v.Name, v.Desc = l[r.A].Text, l[r.B].Text
	}
	return v, api.OK
}

// modelHolds asks number by number whether one of two, or number 0, stands ahead.
func modelHolds(l []api.Raw) bool {
	none := map[int]bool{0: true}
	for i, r := range l {
		if !none[i] && kinds[r.Tag].bytes == 8 {
			none[i+1] = true
		}
	}
	for i := range none {
		if i >= len(l) || l[i] != (api.Raw{}) {
			return false
		}
	}
	for i, r := range l {
		if !none[i] && !leadsRight(l, i, r.Tag) {
			return false
		}
	}
	return true
}

// modelCompare has the texts' bytes as a row.
func modelCompare(a, b api.Value) int {
	for _, way := range []int{
		cmp.Compare(a.Tag, b.Tag),
		slices.Compare([]byte(a.Text), []byte(b.Text)),
		cmp.Compare(a.Bits, b.Bits),
		slices.Compare([]byte(a.Class), []byte(b.Class)),
		slices.Compare([]byte(a.Name), []byte(b.Name)),
		slices.Compare([]byte(a.Desc), []byte(b.Desc)),
	} {
		if way != 0 {
			return way
		}
	}
	return 0
}

// wantRead asks for what is read of bytes, with some ahead that were read already, and some behind.
func wantRead(t *testing.T, b []byte) {
	t.Helper()
	want, n, e := modelRead(b)
	c := cursor.New(slices.Concat([]byte{7, 8, 9}, b))
	c.Take(3)
	got := pool.Read(c)
	if c.Err() != e || !slices.Equal(got, want) {
		t.Fatalf("Read of %v: %v, error %d; want %v, error %d", short(b), short(got), c.Err(), short(want), e)
	}
	if e == api.OK && c.At() != 3+n {
		t.Fatalf("Read of %v: at %d, want %d", short(b), c.At(), 3+n)
	}
}

// wantPool asks for all that is answered of a pool.
func wantPool(t *testing.T, l []api.Raw) {
	t.Helper()
	kept := slices.Clone(l)
	if got, want := pool.Bytes(l), modelBytes(l); !slices.Equal(got, want) {
		t.Fatalf("Bytes of %v: %v, want %v", short(l), short(got), short(want))
	}
	if got, want := pool.Holds(l), modelHolds(l); got != want {
		t.Fatalf("Holds of %v: %v", short(l), got)
	}
	for i := -2; i < len(l)+2; i++ {
		wantValue(t, l, i)
	}
	if !slices.Equal(l, kept) {
		t.Fatalf("%v: changed", short(kept))
	}
}

func wantValue(t *testing.T, l []api.Raw, i int, tags ...int) {
	t.Helper()
	kept := slices.Clone(tags)
	got, e := pool.Value(l, i, tags...)
	want, f := modelValue(l, i, tags...)
	if got != want || e != f {
		t.Fatalf("Value of %d in %v, tags %v: %v, error %d; want %v, error %d", i, short(l), tags, got, e, want, f)
	}
	if !slices.Equal(tags, kept) {
		t.Fatalf("Value: tags %v changed", kept)
	}
}

// short is a row, as much of it as a message bears.
func short[T any](row []T) []T { return row[:min(len(row), 60)] }
