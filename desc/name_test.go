package desc_test

import (
	"strings"
	"testing"

	"packsaddle/desc"
)

// What a row may be the name of.
const (
	member = 1 << iota
	method
	aClass
	named
)

// wantName asks for just what a row may name.
func wantName(t *testing.T, row string, want int) {
	t.Helper()
	got := 0
	for i, may := range []bool{desc.Member(row), desc.Method(row), desc.Class(row), desc.Named(row)} {
		if may {
			got |= 1 << i
		}
	}
	if got != want {
		t.Errorf("names of %q: %04b, want %04b", short(row), got, want)
	}
}

// P17.1: what a row may name, by the chapter's words.
func TestNames(t *testing.T) {
	const all = member | method | aClass | named
	const noMethod = all &^ method
	for row, want := range map[string]int{
		"":                 0,
		"a":                all,
		"I":                all,
		"V":                all,
		"L":                all,
		"(":                all,
		"()V":              all,
		" ":                all,
		"\x01":             all,
		"\x7f":             all,
		"a b-c$1,*":        all,
		"init":             all,
		".":                0,
		";":                0,
		"[":                0,
		"/":                0,
		"a.b":              0,
		"a;":               0,
		"La;":              0,
		"a[":               0,
		"<":                noMethod,
		">":                noMethod,
		"<>":               noMethod,
		"a<b":              noMethod,
		"a>":               noMethod,
		"<init>":           all,
		"<clinit>":         all,
		"<init":            noMethod,
		"init>":            noMethod,
		"<init>a":          noMethod,
		"a<init>":          noMethod,
		"<Init>":           noMethod,
		"<init><init>":     noMethod,
		"<clinit>\x00":     0,
		"a/b":              aClass | named,
		"a/b/c":            aClass | named,
		"java/lang/A":      aClass | named,
		"<init>/<":         aClass | named,
		"/a":               0,
		"a/":               0,
		"a//b":             0,
		"//":               0,
		"a/b.c":            0,
		"a/b;":             0,
		"a/[b":             0,
		"a.b/c":            0,
		"[I":               named,
		"[[[D":             named,
		"[La;":             named,
		"[[La/b/c;":        named,
		"[V":               0,
		"[a":               0,
		"[La":              0,
		"[La;;":            0,
		"[II":              0,
		"[L;":              0,
		"[La//b;":          0,
		"a[I":              0,
		"I[":               0,
		"\x00":             0,
		"a\x00":            0,
		"\xc0\x80":         all,
		"\xc3\xa9":         all,
		"\xe6\x97\xa5/a":   aClass | named,
		"\xed\xa0\x80":     all, // a half alone is a unit
		"\x80":             0,
		"\xc0":             0,
		"a\xe6\x97":        0,
		"\xe6\x97/\xa5":    0,
		"a/\xff":           0,
		"\xc1\x81":         0, // "A" in two bytes
		"\xc0\xae":         0, // "." in two bytes
		"\xf0\x9f\x98\x80": 0,
		"[L\xc3\xa9;":      named,
		"[L\xc3;":          0,
	} {
		wantName(t, row, want)
		wantRow(t, row)
	}
}

// P17.1: a class's constant names an array of at most MaxDims dimensions.
func TestNamedDims(t *testing.T) {
	for _, end := range []string{"I", "La/b;"} {
		for dims, want := range map[int]int{1: named, 2: named, 254: named, 255: named, 256: 0, 257: 0, 70000: 0} {
			wantName(t, strings.Repeat("[", dims)+end, want)
		}
	}
	for _, dims := range []int{1, 255, 256} {
		wantName(t, strings.Repeat("[", dims), 0)
		wantName(t, strings.Repeat("[", dims)+"V", 0)
	}
}

// P17.1: names of any length, right up to the last byte.
func TestLongNames(t *testing.T) {
	const many = 1 << 20
	for _, piece := range []string{"a", "\xc0\x80", "\xe6\x97\xa5"} {
		row := strings.Repeat(piece, many)
		wantName(t, row, member|method|aClass|named)
		wantName(t, row+">", member|aClass|named)
		wantName(t, row+"/a", aClass|named)
		wantName(t, "[L"+row+";", named)
		for _, end := range []string{".", ";", "[", "/", "//a", "\x00", "\x80", "\xc0"} {
			wantName(t, row+end, 0)
		}
	}
	wantName(t, strings.Repeat("a/", many)+"b", aClass|named)
	wantName(t, strings.Repeat("a/", many), 0)
	wantName(t, strings.Repeat("/", many), 0)
}
