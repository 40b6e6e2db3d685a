package utf_test

import (
	"math/rand"
	"testing"

	"packsaddle/utf"
)

const zero = "\xc0\x80"

// P15.1: one row ahead of another one, and never the other way round.
func TestLess(t *testing.T) {
	for _, pair := range [][2]string{
		{"", "a"}, {"", zero}, {"", "\xff"}, {"a", "ab"}, {"a", "b"}, {"ab", "b"}, {"B", "a"}, {"a", "aa"},
		{zero, "\x01"}, {zero, "a"}, {zero, "\x7f"}, {zero, "\xc2\x80"}, {zero, "\xed\xa0\x80"}, {zero, zero + zero},
		{"a" + zero, "a\x01"}, {"a", "a" + zero}, {"a" + zero + "z", "ab"}, {zero + "b", "\x01a"}, {zero + zero, zero + "\x01"}, {zero + "\x01", "\x01"}, {zero + "\x7f", "\x01" + zero},
		{"\x7f", "\xc2\x80"}, {"\xdf\xbf", "\xe0\xa0\x80"}, {"\xc3\x80", "\xc3\xbf"}, {"\xe6\x97\xa5", "\xe6\x9c\xac"},
		{"\xed\xa0\xbd\xed\xb8\x80", "\xef\xbf\xbf"}, // a sign's first half is less than the unit 65535, though the sign isn't
		{"\xed\xa0\xbd", "\xed\xa0\xbd\xed\xb8\x80"},
		// Of rows that aren't right by bytes.
		{"a", "\xff"}, {"\x00", "\x01"}, {"\x00", zero}, {"\x80", "\xc0"}, {"\xc0", zero}, {"\xff", "\xff\xff"}, {"", "\x00"},
		{"a\xff", zero + "\xff"}, {"a\xff", zero}, {"a", zero + "\xff"}, {"\x7f\x80", zero + "\x80"}, {"\x01", zero + "\x00"}, {"\xe0\x80\x80", "\xe0\xa0\x80"}, {"\xed\xb8\x80", "\xf0\x9f\x98\x80"},
	} {
		if !utf.Less(pair[0], pair[1]) || utf.Less(pair[1], pair[0]) {
			t.Errorf("%q: %v, %v", pair, utf.Less(pair[0], pair[1]), utf.Less(pair[1], pair[0]))
		}
		if utf.Less(pair[0], pair[0]) || utf.Less(pair[1], pair[1]) {
			t.Errorf("%q: less than themselves", pair)
		}
		wantLess(t, pair[0], pair[1])
	}
}

// P15.1: each unit stands ahead of the next one, whatever is behind.
func TestLessUnits(t *testing.T) {
	for n := range 65535 {
		one, next := modelBytes(n), modelBytes(n+1)
		if !utf.Less(one, next) || utf.Less(next, one) || !utf.Less("a"+one+"z", "a"+next) || utf.Less(next, one+"\xef\xbf\xbf") {
			t.Errorf("%d and %d", n, n+1)
		}
	}
}

// P15.1: rows of bytes that may be 0's, or wrong, each against each.
func TestLessEdges(t *testing.T) {
	pieces := []string{"\x00", "\x01", "\x7f", "\x80", "\xc0", zero, "\xc2\x80", "\xe0\xa0\x80", "\xed\xa0\x80", "\xff"}
	all := rows(2, pieces...)
	for _, a := range all {
		for _, b := range all {
			wantLess(t, a, b)
		}
	}
	all = rows(3, "\x01", zero, "\xdf\xbf", "\xef\xbf\xbf", "\x80")
	for _, a := range all {
		for _, b := range all {
			wantLess(t, a, b)
		}
	}
}

// P15.1: rows of a shared beginning.
func TestLessRandom(t *testing.T) {
	r := rand.New(rand.NewSource(151))
	for range 50000 {
		row := func(most int) string {
			out := ""
			for range r.Intn(most) {
				out += modelBytes(int(edges[r.Intn(len(edges))]))
			}
			if r.Intn(8) == 0 {
				out += edgeBytes[r.Intn(len(edgeBytes))]
			}
			return out
		}
		ahead := row(6)
		wantLess(t, ahead+row(3), ahead+row(3))
	}
}
