package poolsort_test

import (
	"cmp"
	"slices"
	"strings"
	"testing"

	"packsaddle/api"
	"packsaddle/pool"
	"packsaddle/poolsort"
)

// What the chapter tells, by a table: of each tag, what it has (t Text, b Bits, c Class, n Name, d Desc), how many numbers it takes, and what it needs, piece by piece: the tag, and which of its own the other one has.

type kind struct {
	has   string
	width int
	needs []need
}

// need is a value's that has this tag, and the one's own by pairs of letters: its own one, the other's one.
type need struct {
	tag   int
	takes string
}

var kinds = map[int]kind{
	1: {"t", 1, nil}, 3: {"b", 1, nil}, 4: {"b", 1, nil}, 5: {"b", 2, nil}, 6: {"b", 2, nil},
	7: {"t", 1, []need{{1, "tt"}}}, 8: {"t", 1, []need{{1, "tt"}}},
	9:  {"cnd", 1, []need{{7, "ct"}, {12, "nndd"}}},
	10: {"cnd", 1, []need{{7, "ct"}, {12, "nndd"}}},
	11: {"cnd", 1, []need{{7, "ct"}, {12, "nndd"}}},
	12: {"nd", 1, []need{{1, "nt"}, {1, "dt"}}},
}

// textOf is one of a value's texts, by its letter.
func textOf(v *api.Value, letter byte) *string {
	return map[byte]*string{'t': &v.Text, 'c': &v.Class, 'n': &v.Name, 'd': &v.Desc}[letter]
}

func modelNeeds(v api.Value) []api.Value {
	var out []api.Value
	for _, n := range kinds[v.Tag].needs {
		other := api.Value{Tag: n.tag}
		for takes := n.takes; takes != ""; takes = takes[2:] {
			*textOf(&other, takes[1]) = *textOf(&v, takes[0])
		}
		out = append(out, other)
	}
	return out
}

// modelFault asks letter by letter for what a tag hasn't.
func modelFault(v api.Value) api.Errno {
	k, known := kinds[v.Tag]
	wrong := !known || v.Bits != 0 && !strings.Contains(k.has, "b")
	for _, letter := range []byte("tcnd") {
		if !strings.ContainsRune(k.has, rune(letter)) && *textOf(&v, letter) != "" {
			wrong = true
		}
	}
	if wrong {
		return api.ErrKind
	}
	if (v.Tag == 3 || v.Tag == 4) && v.Bits>>32 != 0 {
		return api.ErrRange
	}
	return api.OK
}

func modelCompare(a, b api.Value) int {
	return cmp.Or(
		cmp.Compare(a.Tag, b.Tag),
		slices.Compare([]byte(a.Text), []byte(b.Text)),
		cmp.Compare(a.Bits, b.Bits),
		slices.Compare([]byte(a.Class), []byte(b.Class)),
		slices.Compare([]byte(a.Name), []byte(b.Name)),
		slices.Compare([]byte(a.Desc), []byte(b.Desc)),
	)
}

// modelValues are a pool's, each at its number; what is none is the zero value there.
func modelValues(low, all []api.Value) []api.Value {
	first := slices.Clone(low)
	slices.SortFunc(first, modelCompare)
	first = slices.Compact(first)
	rest := slices.Concat(first, all)
	for i := 0; i < len(rest); i++ { // those that come in behind have their turn, too
		rest = append(rest, modelNeeds(rest[i])...)
	}
	slices.SortFunc(rest, modelCompare)
	rest = slices.DeleteFunc(slices.Compact(rest), func(v api.Value) bool {
		_, found := slices.BinarySearchFunc(first, v, modelCompare)
		return found
	})
	out := []api.Value{{}}
	for _, v := range slices.Concat(first, rest) {
		out = append(out, v)
		out = append(out, make([]api.Value, kinds[v.Tag].width-1)...)
	}
	return out
}

// modelRaw are constants, by looking for the places of what they need.
func modelRaw(values []api.Value) []api.Raw {
	out := make([]api.Raw, len(values))
	for i, v := range values {
		leads := [2]int{}
		for n, need := range modelNeeds(v) {
			leads[n] = slices.Index(values, need)
		}
		out[i] = api.Raw{Tag: v.Tag, Bits: v.Bits, A: leads[0], B: leads[1]}
		if v.Tag == api.TagText {
			out[i].Text = v.Text
		}
	}
	return out
}

// wantPool asks for all that is answered of some values.
func wantPool(t *testing.T, low, all []api.Value) {
	t.Helper()
	keptLow, keptAll := slices.Clone(low), slices.Clone(all)
	p, e := poolsort.New(low, all)
	if !slices.Equal(low, keptLow) || !slices.Equal(all, keptAll) {
		t.Fatalf("%v, %v: changed", keptLow, keptAll)
	}
	want := api.OK
	for _, v := range slices.Concat(low, all) {
		want = cmp.Or(want, modelFault(v))
	}
	if e != want || (p == nil) != (e != api.OK) {
		t.Fatalf("%v, %v: error %d, want %d; pool %v", low, all, e, want, p)
	}
	if e == api.OK {
		wantValues(t, p, modelValues(low, all))
	}
}

// wantValues asks whether a pool has just these, each at its number.
func wantValues(t *testing.T, p *poolsort.Pool, values []api.Value) {
	t.Helper()
	raw := p.Raw()
	if want := modelRaw(values); !slices.Equal(raw, want) {
		t.Fatalf("%v, want %v", short(raw), short(want))
	}
	if !pool.Holds(raw) {
		t.Fatalf("%v: doesn't hold", short(raw))
	}
	for n, v := range values {
		if v.Tag == 0 {
			n = 0
		}
		if got := p.Number(v); got != n {
			t.Fatalf("%v: number %d, want %d", v, got, n)
		}
		if got, e := pool.Value(raw, n); got != v || (e == api.OK) != (n > 0) {
			t.Fatalf("number %d: %v, error %d; want %v", n, got, e, v)
		}
	}
}

// short is a row, as much of it as a message bears.
func short[T any](row []T) []T { return row[:min(len(row), 60)] }
