package zip_test

import (
	"math"
	"strings"
	"testing"

	"packsaddle/api"
	"packsaddle/zip"
)

func wantName(t *testing.T, s string, want bool) {
	t.Helper()
	if zip.Name(s) != want {
		t.Errorf("%d bytes %.60q: %v", len(s), s, !want)
	}
}

// mayBeNamed asks by the chapter's words whether a name may be, in another way than the program: sign by sign, keeping what stands since the last "/".
func mayBeNamed(s string) bool {
	if len(s) < 1 || len(s) > 65535 || string([]rune(s)) != s {
		return false
	}
	part := ""
	for _, sign := range []rune(s) {
		switch {
		case sign < 32 || sign == 127 || sign == 92:
			return false
		case sign != '/':
			part += string(sign)
		case part == "" || part == "." || part == "..":
			return false
		default:
			part = ""
		}
	}
	return part != "." && part != ".."
}

// P13.1: names that may be, and names that may not.
func TestName(t *testing.T) {
	for _, s := range []string{"a", "a.txt", "A.class", "META-INF/MANIFEST.MF", "a/b/c", "a/b/", "a/", " ", " / ", "a b", "~", "...", "....", ".a", "a.", "..a", "a..", ". ", " .", ".../a", "a/...", "a/.../",
		".a/..b/c./d../", "Ä/Ö.class", "Ж", "日本/語", "\U0001f40e", "\u0080", "\u00a0", "\u2028", "\ufeff", "\ufffd", "\ufffe", "\U0010ffff", "a:b", "C:", "a*?\"<>|", "%2e%2e/", "-", "∕", "．．/"} {
		wantName(t, s, true)
	}
	for _, s := range []string{"", "/", "//", "///", "/a", "/a/", "a//", "a//b", "//a", "a///", "a/b//", ".", "..", "./", "../", "./a", "../a", "a/.", "a/..", "a/./", "a/../", "a/./b", "a/../b", "./.", "../..", "a/b/..", "a/b/../",
		"\\", "a\\b", "\\a", "a\\", "a\x00", "\x00", "\n", "a\tb", "a\r", "\x1f", "\x7f", "a\x7f", "a/\x7f/b", "a/\x1f"} {
		wantName(t, s, false)
	}
}

// P13.1: a name has 1 to MaxName - 1 bytes (bytes, not signs).
func TestNameLength(t *testing.T) {
	for _, sign := range []string{"a", "é", "語", "\U0001f40e", "a/"} {
		for n := 65535 - 2*len(sign); n <= 65536+2*len(sign); n++ {
			s := strings.Repeat(sign, n/len(sign)) + strings.Repeat("b", n%len(sign))
			wantName(t, s, n <= 65535)
		}
	}
	for _, n := range []int{1, 2, 3, 255, 256, 65534, 65535} {
		wantName(t, strings.Repeat("x", n), true)
		wantName(t, strings.Repeat("x", n-1)+"\xff", false)
		wantName(t, strings.Repeat("x", n-1)+"\\", false)
	}
	for _, n := range []int{65536, 65537, 131071, 131072, 1 << 20} {
		wantName(t, strings.Repeat("x", n), false)
	}
	wantName(t, strings.Repeat("/", 65535), false)
	wantName(t, strings.Repeat("a/", 32767)+"/", false)
	wantName(t, strings.Repeat("a/", 32767)+"b", true)
	wantName(t, strings.Repeat("a/", 32766)+"..", false)
}

// P13.1: each sign, alone and between others.
func TestNameSigns(t *testing.T) {
	for sign := rune(0); sign <= 0x10ffff; sign++ {
		if sign >= 0xd800 && sign <= 0xdfff {
			continue
		}
		s, want := string(sign), sign >= 32 && sign != 92 && sign != 127
		if zip.Name("a"+s+"b") != want || zip.Name("c/d"+s+"b/") != want {
			t.Errorf("sign %x between others: want %v", sign, want)
		}
		if alone := want && sign != '.' && sign != '/'; zip.Name(s) != alone {
			t.Errorf("sign %x alone: want %v", sign, alone)
		}
	}
}

// P13.1: bytes that are no text of UTF-8.
func TestNameBytes(t *testing.T) {
	for _, s := range []string{"\x80", "\xbf", "\xc3", "\xe8\xaa", "\xe8", "\xf0\x9f\x90", "\xf0\x9f", "\xf0", "\xc3(", "\xe8\xaa(", // cut short
		"\xc0\x80", "\xc0\xaf", "\xc1\xbf", "\xe0\x80\xaf", "\xe0\x9f\xbf", "\xf0\x80\x80\xaf", "\xf0\x8f\xbf\xbf", "\xf8\x88\x80\x80\x80", // longer than need be
		"\xed\xa0\x80", "\xed\xaf\xbf", "\xed\xb0\x80", "\xed\xbf\xbf", "\xed\xa0\xbd\xed\xb0\x8e", // halves of pairs, and two that are a pair
		"\xf4\x90\x80\x80", "\xf5\x80\x80\x80", "\xfe", "\xff"} { // beyond the last sign
		wantName(t, s, false)
		wantName(t, "a"+s, false)
		wantName(t, s+"b", false)
		wantName(t, "a/"+s+"/b", false)
		wantName(t, "a/"+s+"/", false)
	}
	for n := range 1 << 16 {
		s := string([]byte{byte(n >> 8), byte(n)})
		wantName(t, s, mayBeNamed(s))
	}
	for lead := 0xe0; lead <= 0xff; lead++ {
		for n := range 1 << 16 {
			s := string([]byte{byte(lead), byte(n >> 8), byte(n)})
			if n>>8 >= 0x7f && n>>8 <= 0xc1 && zip.Name(s) != mayBeNamed(s) {
				t.Fatalf("%q: want %v", s, mayBeNamed(s))
			}
			s += "\x80"
			if lead >= 0xf0 && n>>8 >= 0x7f && n>>8 <= 0xc1 && zip.Name(s) != mayBeNamed(s) {
				t.Fatalf("%q: want %v", s, mayBeNamed(s))
			}
		}
	}
}

// P13.1: all names of up to 8 of some signs.
func TestNameParts(t *testing.T) {
	names, asked := []string{""}, 0
	for range 8 {
		var longer []string
		for _, s := range names {
			for _, sign := range []string{"a", ".", "/"} {
				longer = append(longer, s+sign)
				wantName(t, s+sign, mayBeNamed(s+sign))
				asked++
			}
		}
		names = longer
	}
	if asked != 9840 {
		t.Error("asked", asked)
	}
}

// P13.1: each number at its bounds, and beyond them.
func TestLimits(t *testing.T) {
	numbers := []int{math.MinInt, math.MinInt32, -1 << 24, -65536, -2, -1, 0, 1, 2, 22, 255, 65534, 65535, 65536, 65537, 1<<24 - 1, 1 << 24, 1<<24 + 1, 1 << 25, math.MaxInt32, 1 << 32, 1<<32 + 1, 1 << 48, math.MaxInt}
	for _, entries := range numbers {
		for _, bytes := range numbers {
			for _, whole := range numbers {
				want := entries >= 0 && entries <= 65535 && bytes >= 0 && bytes <= 16777216 && whole >= 0 && whole <= 16777216
				l := api.Limits{Entries: entries, Bytes: bytes, Whole: whole}
				if zip.Limits(l) != want {
					t.Errorf("%+v: want %v", l, want)
				}
				if _, e := zip.Read(nil, l); (e == api.ErrArg) == want || want && e != api.ErrEnd {
					t.Errorf("Read with %+v: error %d", l, e)
				}
				wantE := api.OK
				if !want {
					wantE = api.ErrArg
				} else if whole < 22 {
					wantE = api.ErrLong
				}
				if b, e := zip.Write(nil, l); e != wantE || e == api.OK && len(b) != 22 {
					t.Errorf("Write with %+v: %d bytes, error %d, want %d", l, len(b), e, wantE)
				}
			}
		}
	}
}
