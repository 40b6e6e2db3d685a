package utf_test

import (
	"math/rand"
	"slices"
	"strings"
	"testing"

	"packsaddle/utf"
)

// edges are the units about which their bytes, or the signs that they are of, are others.
var edges = []uint16{0, 1, 2, 63, 64, 126, 127, 128, 129, 191, 192, 2046, 2047, 2048, 2049, 4095, 4096, 55295, 55296, 55297, 56319, 56320, 56321, 57343, 57344, 57345, 65533, 65534, 65535}

// edgeBytes are bytes about which others may stand behind.
var edgeBytes = []string{"\x00", "\x01", "A", "\x7f", "\x80", "\x81", "\x9f", "\xa0", "\xbf", "\xc0", "\xc1", "\xc2", "\xdf", "\xe0", "\xe1", "\xed", "\xef", "\xf0", "\xf4", "\xf7", "\xf8", "\xff"}

// P15.1: rows by the document's own numbers.
func TestRows(t *testing.T) {
	for row, want := range map[string][]uint16{
		"":                         {},
		"a":                        {97},
		"\x01":                     {1},
		"\x7f":                     {127},
		"\xc0\x80":                 {0},
		"\xc2\x80":                 {128},
		"\xc3\xa9":                 {233},
		"\xdf\xbf":                 {2047},
		"\xe0\xa0\x80":             {2048},
		"\xed\x9f\xbf":             {55295},
		"\xed\xa0\x80":             {55296},
		"\xed\xbf\xbf":             {57343},
		"\xee\x80\x80":             {57344},
		"\xef\xbf\xbd":             {65533},
		"\xef\xbf\xbf":             {65535},
		"\xed\xa0\xbd\xed\xb8\x80": {55357, 56832},
		"\xed\xb8\x80\xed\xa0\xbd": {56832, 55357},
		"a\xc0\x80\xc0\x80\x01":    {97, 0, 0, 1},
	} {
		got, ok := utf.Units(row)
		if !ok || !slices.Equal(got, want) || !utf.Right(row) || utf.Bytes(want) != row {
			t.Errorf("%q: %v, %v, %v, %q", row, got, ok, utf.Right(row), utf.Bytes(want))
		}
		wantRow(t, row)
	}
}

// P15.1: rows that aren't right, alone and with right ones ahead and behind.
func TestWrongRows(t *testing.T) {
	for _, row := range []string{
		"\x00",                     // the unit 0 has two bytes
		"\x80", "\xbf", "\x80\x80", // no beginning
		"\xc0", "\xc2", "\xdf", // an end too early
		"\xe0\xa0", "\xed", "\xef\xbf", // and of three bytes
		"\xc0\x00", "\xc0\x7f", "\xc0\xc0", "\xc2A", "\xc2\xff", // no further byte
		"\xe1A\x80", "\xe1\x80A", "\xe1\xc0\x80", "\xe1\x80\xc0", "\xe1\x80\x00", "\xe1\x00\x80",
		"\xc0\x81", "\xc1\xa1", "\xc1\xbf", // two bytes for one
		"\xe0\x80\x80", "\xe0\x81\xbf", // three bytes for 0, and for one
		"\xe0\x82\x80", "\xe0\x9f\xbf", // three bytes for two
		"\xf0\x9f\x98\x80", "\xf0\x90\x80\x80", "\xf4\x8f\xbf\xbf", // a sign's four bytes
		"\xf0\x80\x80", "\xf0\x80\x80\x80", "\xf7\xbf\xbf\xbf", "\xf8\x88\x80\x80\x80", "\xfc\x80\x80", "\xfe", "\xff", "\xff\xbf\xbf",
	} {
		for _, ahead := range []string{"", "a", "\xc0\x80", "\xdf\xbf", "\xed\xa0\x80"} {
			for _, behind := range []string{"", "a", "\xc0\x80", "\xdf\xbf", "\xed\xb0\x80"} {
				whole := ahead + row + behind
				units, ok := utf.Units(whole)
				text, there := utf.Decode(whole)
				if ok || len(units) != 0 || there || text != "" || utf.Right(whole) {
					t.Errorf("%q: %v, %v; %q, %v; %v", whole, units, ok, text, there, utf.Right(whole))
				}
				wantRow(t, whole)
			}
		}
	}
}

// P15.1: each unit alone, with each of its bytes taken out, and with bytes behind.
func TestEachUnit(t *testing.T) {
	for n := range 65536 {
		wantUnits(t, uint16(n))
		row := modelBytes(n)
		if got, ok := utf.Units(row); !ok || len(got) != 1 || got[0] != uint16(n) {
			t.Errorf("%d: %v, %v", n, got, ok)
		}
		for i := range len(row) {
			wantRow(t, row[:i])
			wantRow(t, row[i:])
			wantRow(t, row[:i]+row[i+1:])
		}
		wantRow(t, row+"\x80")
		wantRow(t, row+row)
	}
}

// P15.1: of all rows of one, two and three bytes just those are right that are some units' bytes. All these are known to be right, so counting them is enough.
func TestCountRight(t *testing.T) {
	const ones, twos, threes = 127, 1 + 2048 - 128, 65536 - 2048
	row := []byte{0, 0, 0}
	for n, want := range []int{1, ones, ones*ones + twos, ones*ones*ones + 2*ones*twos + threes} {
		got := 0
		for number := range 1 << (8 * n) {
			for i := range n {
				row[i] = byte(number >> (8 * i))
			}
			if utf.Right(string(row[:n])) {
				got++
			}
		}
		if got != want {
			t.Errorf("%d bytes: %d rows, want %d", n, got, want)
		}
	}
}

// P15.1: rows of all bytes about which others may stand behind; as texts they are encoded, or no UTF-8.
func TestEdgeBytes(t *testing.T) {
	for _, row := range rows(4, edgeBytes...) {
		wantRow(t, row)
		wantText(t, row)
	}
}

// P15.1: up to three units of those at edges: halves of signs in any order among them.
func TestEdgeUnits(t *testing.T) {
	wantUnits(t)
	for _, a := range edges {
		for _, b := range edges {
			wantUnits(t, a, b)
			for _, c := range edges {
				wantUnits(t, a, b, c)
			}
		}
	}
	halves := []uint16{55296, 56319, 56320, 57343, 97}
	for n := range 5 * 5 * 5 * 5 * 5 {
		wantUnits(t, halves[n%5], halves[n/5%5], halves[n/25%5], halves[n/125%5], halves[n/625])
	}
}

// P15.1: what is nil and what is empty are one; an answer is the caller's own.
func TestOwn(t *testing.T) {
	if utf.Bytes(nil) != "" || utf.Bytes([]uint16{}) != "" {
		t.Error("no units")
	}
	if got, ok := utf.Units(""); !ok || len(got) != 0 {
		t.Error("no bytes:", got, ok)
	}
	first, _ := utf.Units("abc")
	second, _ := utf.Units("abc")
	first[0], first[2] = 1, 2
	if !slices.Equal(second, []uint16{97, 98, 99}) {
		t.Error("one answer is another one's:", second)
	}
	units := []uint16{97, 0, 98}
	row := utf.Bytes(units)
	units[0], units[1] = 98, 98
	if row != "a\xc0\x80b" {
		t.Errorf("%q", row)
	}
}

// P15.1: rows of many pieces, right and wrong ones.
func TestRandomRows(t *testing.T) {
	r := rand.New(rand.NewSource(15))
	for range 100000 {
		row, wrong := "", r.Intn(2) == 0
		for range r.Intn(20) {
			switch n := r.Intn(10); {
			case n == 0 && wrong:
				row += edgeBytes[r.Intn(len(edgeBytes))]
			case n < 4:
				row += modelBytes(int(edges[r.Intn(len(edges))]))
			case n < 7:
				row += modelBytes(1 + r.Intn(127))
			default:
				row += modelBytes(r.Intn(65536))
			}
		}
		wantRow(t, row)
		wantText(t, row)
	}
}

// P15.1: rows of 2^20 bytes and more: the last ones are asked as the first are.
func TestLongRows(t *testing.T) {
	for _, piece := range []string{"a", "\xc0\x80", "\xc3\xa9", "\xe6\x97\xa5", "\xed\xa0\xbd\xed\xb8\x80"} {
		row := strings.Repeat(piece, 1<<20/len(piece))
		units, ok := utf.Units(row)
		text, there := utf.Decode(row)
		if again, encoded := utf.Encode(text); !ok || !there || !encoded || again != row || utf.Bytes(units) != row || !utf.Right(row) {
			t.Errorf("%q: %v, %v, %v", piece, ok, there, encoded)
		}
		for _, end := range []string{"\x00", "\x80", "\xc0", "\xe0\xa0"} {
			_, ok := utf.Units(row + end)
			_, there := utf.Decode(row + end)
			if ok || there || utf.Right(row+end) {
				t.Errorf("%q, then %q: %v, %v", piece, end, ok, there)
			}
		}
		if !utf.Less(row, row+"a") || utf.Less(row+"a", row) || utf.Less(row, row) || !utf.Less(row+zero, row+"\x01") || utf.Less(row+"\x01", row+zero) {
			t.Errorf("%q: less", piece)
		}
	}
}
