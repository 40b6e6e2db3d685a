package utf_test

import (
	"slices"
	"testing"
	"unicode/utf16"
	"unicode/utf8"

	"packsaddle/utf"
)

// What follows answers by the chapter's words, in another way than the program: by a table of all units' bytes, and by the library's own units of texts.

// modelBytes are a unit's bytes, by arithmetic alone.
func modelBytes(n int) string {
	switch {
	case n >= 1 && n <= 127:
		return string([]byte{byte(n)})
	case n == 0 || n >= 128 && n <= 2047:
		return string([]byte{byte(192 + n/64), byte(128 + n%64)})
	}
	return string([]byte{byte(224 + n/4096), byte(128 + n/64%64), byte(128 + n%64)})
}

// unitOf is each unit by its bytes.
var unitOf = func() map[string]uint16 {
	out := map[string]uint16{}
	for n := range 65536 {
		out[modelBytes(n)] = uint16(n)
	}
	return out
}()

// modelUnits finds units one by one: no unit's bytes begin another one's.
func modelUnits(row string) ([]uint16, bool) {
	var out []uint16
next:
	for row != "" {
		for n := 1; n <= 3 && n <= len(row); n++ {
			if unit, there := unitOf[row[:n]]; there {
				out, row = append(out, unit), row[n:]
				continue next
			}
		}
		return nil, false
	}
	return out, true
}

func modelRow(units []uint16) string {
	out := ""
	for _, u := range units {
		out += modelBytes(int(u))
	}
	return out
}

func modelEncode(text string) (string, bool) {
	if !utf8.ValidString(text) {
		return "", false
	}
	return modelRow(utf16.Encode([]rune(text))), true
}

// modelDecode takes the library's text, if that has just those units: for a half alone the library has another sign.
func modelDecode(row string) (string, bool) {
	units, right := modelUnits(row)
	signs := utf16.Decode(units)
	if !right || !slices.Equal(utf16.Encode(signs), units) {
		return "", false
	}
	return string(signs), true
}

func modelLess(a, b string) bool {
	u, right := modelUnits(a)
	v, rightToo := modelUnits(b)
	if right && rightToo {
		return slices.Compare(u, v) < 0
	}
	return slices.Compare([]byte(a), []byte(b)) < 0
}

// wantRow asks for all that is answered of a row, and what follows of it.
func wantRow(t *testing.T, row string) {
	t.Helper()
	units, right := modelUnits(row)
	if got := utf.Right(row); got != right {
		t.Errorf("Right of %q: %v", short(row), got)
	}
	got, ok := utf.Units(row)
	if ok != right || !slices.Equal(got, units) {
		t.Errorf("Units of %q: %v, %v; want %v, %v", short(row), got[:min(len(got), 9)], ok, units[:min(len(units), 9)], right)
	}
	if right && utf.Bytes(got) != row {
		t.Errorf("Bytes of the Units of %q: %q", short(row), short(utf.Bytes(got)))
	}
	text, there := modelDecode(row)
	decoded, ok := utf.Decode(row)
	if ok != there || decoded != text {
		t.Errorf("Decode of %q: %q, %v; want %q, %v", short(row), short(decoded), ok, short(text), there)
	}
	if there {
		if again, ok := utf.Encode(decoded); !ok || again != row {
			t.Errorf("Encode of %q: %q, %v; want %q", short(decoded), short(again), ok, short(row))
		}
	}
}

// wantUnits asks for units' bytes, and for all that is answered of these.
func wantUnits(t *testing.T, units ...uint16) {
	t.Helper()
	kept := slices.Clone(units)
	row := modelRow(units)
	if got := utf.Bytes(units); got != row {
		t.Errorf("Bytes of %v: %q, want %q", units[:min(len(units), 9)], short(got), short(row))
	}
	if !slices.Equal(units, kept) {
		t.Errorf("Bytes of %v: changed", kept)
	}
	wantRow(t, row)
}

// wantText asks for a text's bytes, and that these are decoded to it.
func wantText(t *testing.T, text string) {
	t.Helper()
	want, there := modelEncode(text)
	got, ok := utf.Encode(text)
	if ok != there || got != want {
		t.Errorf("Encode of %q: %q, %v; want %q, %v", short(text), short(got), ok, short(want), there)
	}
	if !ok {
		return
	}
	if again, ok := utf.Decode(got); !ok || again != text {
		t.Errorf("Decode of %q: %q, %v; want %q", short(got), short(again), ok, short(text))
	}
}

// wantLess asks both ways round.
func wantLess(t *testing.T, a, b string) {
	t.Helper()
	for range 2 {
		if got := utf.Less(a, b); got != modelLess(a, b) {
			t.Errorf("Less of %q and %q: %v", short(a), short(b), got)
		}
		a, b = b, a
	}
}

// short is a row, as much of it as a message bears.
func short(row string) string {
	if len(row) > 60 {
		return row[:30] + " ... " + row[len(row)-30:]
	}
	return row
}

// rows are all of these pieces, up to so many behind one another.
func rows(most int, pieces ...string) []string {
	out := []string{""}
	last := out
	for range most {
		var next []string
		for _, row := range last {
			for _, piece := range pieces {
				next = append(next, row+piece)
			}
		}
		out, last = append(out, next...), next
	}
	return out
}
