package utf_test

import (
	"math/rand"
	"strings"
	"testing"

	"packsaddle/utf"
)

// P15.1, P15.2: texts by the document's own numbers, both ways.
func TestTexts(t *testing.T) {
	for text, want := range map[string]string{
		"":               "",
		"\x00":           "\xc0\x80",
		"\x01":           "\x01",
		"\x7f":           "\x7f",
		"\u0080":         "\xc2\x80",
		"é":              "\xc3\xa9",
		"\u07ff":         "\xdf\xbf",
		"\u0800":         "\xe0\xa0\x80",
		"日本":             "\xe6\x97\xa5\xe6\x9c\xac",
		"\ud7ff":         "\xed\x9f\xbf",
		"\ue000":         "\xee\x80\x80",
		"\ufeff":         "\xef\xbb\xbf",
		"\ufffd":         "\xef\xbf\xbd",
		"\uffff":         "\xef\xbf\xbf",
		"\U00010000":     "\xed\xa0\x80\xed\xb0\x80",
		"\U000103ff":     "\xed\xa0\x80\xed\xbf\xbf",
		"\U00010400":     "\xed\xa0\x81\xed\xb0\x80",
		"\U0001f600":     "\xed\xa0\xbd\xed\xb8\x80",
		"\U0010ffff":     "\xed\xaf\xbf\xed\xbf\xbf",
		"java/lang/A":    "java/lang/A",
		"a\x00\x00b":     "a\xc0\x80\xc0\x80b",
		"\U0001f600\x00": "\xed\xa0\xbd\xed\xb8\x80\xc0\x80",
	} {
		if got, ok := utf.Encode(text); !ok || got != want {
			t.Errorf("Encode of %q: %q, %v; want %q", text, got, ok, want)
		}
		if got, ok := utf.Decode(want); !ok || got != text {
			t.Errorf("Decode of %q: %q, %v; want %q", want, got, ok, text)
		}
		wantText(t, text)
	}
}

// P15.1, P15.2: each sign there is, alone and between others.
func TestEachSign(t *testing.T) {
	for sign := range rune(0x110000) {
		if sign >= 0xd800 && sign < 0xe000 {
			continue
		}
		wantText(t, string(sign))
		if sign%97 == 0 || sign < 0x3000 {
			wantText(t, "a\x00"+string(sign)+string(sign)+"\U0001f600é")
		}
	}
}

// P15.1: what isn't UTF-8 isn't encoded: a half's three bytes, more bytes than needed, signs that aren't, and ends too early.
func TestNoTexts(t *testing.T) {
	wrong := []string{"\x80", "\xbf", "\xc0", "\xc0\x80", "\xc1\xbf", "\xc3", "\xc3A", "\xe0\x80\x80", "\xe0\x9f\xbf", "\xe6\x97", "\xe6\x97A",
		"\xed\xa0\x80", "\xed\xaf\xbf", "\xed\xb0\x80", "\xed\xbf\xbf", "\xed\xa0\xbd\xed\xb8\x80",
		"\xf0\x80\x80\x80", "\xf0\x8f\xbf\xbf", "\xf0\x9f\x98", "\xf4\x90\x80\x80", "\xf5\x80\x80\x80", "\xf8\x88\x80\x80\x80", "\xfe", "\xff"}
	for _, text := range wrong {
		for _, ahead := range []string{"", "a", "\ufffd", "\U0001f600"} {
			for _, behind := range []string{"", "a", "\x00", "\U0001f600"} {
				whole := ahead + text + behind
				if got, ok := utf.Encode(whole); ok || got != "" {
					t.Errorf("Encode of %q: %q, %v", whole, got, ok)
				}
				wantText(t, whole)
			}
		}
	}
	long := strings.Repeat("é", 1<<20)
	if got, ok := utf.Encode(long + "\xff"); ok || got != "" {
		t.Error("a long text with a wrong end:", len(got), ok)
	}
}

// P15.1: a half without the other one is of no text, though its row is right.
func TestHalvesAlone(t *testing.T) {
	for unit := 55296; unit < 57344; unit++ {
		half := modelBytes(unit)
		for _, row := range []string{half, half + "a", "a" + half, half + half, half + zero, half + half + half, half + "\xee\x80\x80", "\xed\x9f\xbf" + half} {
			if got, ok := utf.Decode(row); ok || got != "" || !utf.Right(row) {
				t.Errorf("Decode of %q: %q, %v", row, got, ok)
			}
		}
	}
	const high, low = "\xed\xa0\xbd", "\xed\xb8\x80"
	for row, want := range map[string]bool{high + low: true, low + high: false, high + low + high: false, high + low + low: false, high + high + low: false, low + high + low: false,
		high + low + high + low: true, high + "a" + low: false, high + zero + low: false, "a" + high + low + "b": true} {
		if got, ok := utf.Decode(row); ok != want || ok == (got == "") {
			t.Errorf("Decode of %q: %q, %v", row, got, ok)
		}
	}
}

// P15.2: what is encoded is decoded, in texts of any signs.
func TestRandomTexts(t *testing.T) {
	r := rand.New(rand.NewSource(152))
	for range 50000 {
		var text strings.Builder
		for range r.Intn(30) {
			most := []int{2, 128, 2048, 65536, 0x110000}[r.Intn(5)]
			text.WriteRune(rune(r.Intn(most))) // a half is written as another sign
		}
		wantText(t, text.String())
	}
}
