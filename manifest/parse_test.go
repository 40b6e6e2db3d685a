package manifest_test

import (
	"fmt"
	"math/rand"
	"slices"
	"strings"
	"testing"

	"packsaddle/api"
	"packsaddle/manifest"
)

const version = "Manifest-Version: 1.0"

// P14.1: texts that are parsed, with line feeds alone, with carriage returns ahead of them, and with both by turns.
func TestParse(t *testing.T) {
	for text, want := range map[string]api.Manifest{
		version + "\n":                                 of(nil),
		version + "\n\n":                               of(nil),
		version + "\n\n\n\n\n":                         of(nil),
		"\n" + version + "\n":                          of(nil),
		"\n\n\n" + version + "\n":                      of(nil),
		version + "\nX: a\n b\n\nName: q\n":            of(headers("X", "ab"), headers("Name", "q")),
		version + "\nX: a\n":                           of(headers("X", "a")),
		version + "\nX: \n":                            of(headers("X", "")),
		version + "\nX:  \n":                           of(headers("X", " ")),
		version + "\nX: : :\n":                         of(headers("X", ": :")),
		version + "\nX: \n \n":                         of(headers("X", "")),
		version + "\nX: a\n \n \n b\n":                 of(headers("X", "ab")),
		version + "\nX: a\n  b \n":                     of(headers("X", "a b ")),
		version + "\nX: a\n   \n":                      of(headers("X", "a  ")),
		version + "\nX:\n  a\n":                        of(headers("X", "a")),
		version + "\nX\n :\n  a\n":                     of(headers("X", "a")),
		version + "\nX: \xff\xc3\n \xa9\n":             of(headers("X", "\xff\xc3\xa9")),
		version + "\nX: a\tb\x01\x7f\n":                of(headers("X", "a\tb\x01\x7f")),
		"M\n a\n nifest-Version: 1\n .0\n":             {Main: headers("Manifest-Version", "1.0")},
		"manifest-version: 2\n":                        {Main: headers("manifest-version", "2")},
		"MANIFEST-VERSION: \n\nnAME: \n\nNAME: \n":     {Main: headers("MANIFEST-VERSION", ""), Parts: [][]api.Pair{headers("nAME", ""), headers("NAME", "")}},
		version + "\n\nName: q\n\nName: q\n":           of(nil, headers("Name", "q"), headers("Name", "q")),
		version + "\n\n\n\nName: q\n\n\nName: q\n":     of(nil, headers("Name", "q"), headers("Name", "q")),
		version + "\nName: q\n\nName: q\nX: a\n":       of(headers("Name", "q"), headers("Name", "q", "X", "a")),
		version + "\nX: a\n\nName: q\nX: b\n":          of(headers("X", "a"), headers("Name", "q", "X", "b")),
		version + "\n\nName: q\nManifest-Version: 2\n": of(nil, headers("Name", "q", "Manifest-Version", "2")),
	} {
		if !same(must(t, text), want) {
			t.Errorf("%q: %q", text, must(t, text))
		}
		wantParsed(t, text, want, api.OK)
		wantParsed(t, strings.ReplaceAll(text, "\n", "\r\n"), want, api.OK)
		wantParsed(t, strings.Replace(text, "\n", "\r\n", 1), want, api.OK)
		for i := range strings.Count(text, "\n") {
			wantParsed(t, strings.Replace(strings.Replace(text, "\n", "\r\n", i+1), "\r\n", "\n", i), want, api.OK)
		}
	}
}

func must(t *testing.T, text string) api.Manifest {
	t.Helper()
	m, e := manifest.Parse([]byte(text))
	if e != api.OK {
		t.Errorf("%q: %d", text, e)
	}
	return m
}

// wrongTexts are texts of one error each.
func wrongTexts() map[string]api.Errno {
	return map[string]api.Errno{
		"":                                   api.ErrEnd,
		"x":                                  api.ErrEnd,
		" ":                                  api.ErrEnd,
		"\r":                                 api.ErrEnd,
		version:                              api.ErrEnd,
		version + "\r":                       api.ErrEnd,
		version + "\n\nName: q":              api.ErrEnd,
		version + "\n ":                      api.ErrEnd,
		version + "\n\r":                     api.ErrEnd,
		"\n":                                 api.ErrForm,
		"\r\n":                               api.ErrForm,
		"\n\r\n\n":                           api.ErrForm,
		" \n":                                api.ErrForm,
		" " + version + "\n":                 api.ErrForm,
		"\n " + version + "\n":               api.ErrForm,
		version + "\n\n x\n":                 api.ErrForm,
		version + "\n\n \n":                  api.ErrForm,
		version + "\n\r\n x\n":               api.ErrForm,
		version + "\nX: a\n\n b\n":           api.ErrForm,
		version + "\n\nName: q\n\n x\n":      api.ErrForm,
		version + "\nX\n":                    api.ErrForm,
		version + "\nX:\n":                   api.ErrForm,
		version + "\nX:a\n":                  api.ErrForm,
		version + "\nX:\ta\n":                api.ErrForm,
		version + "\nX:\n a\n":               api.ErrForm,
		version + "\nX \n :a\n":              api.ErrForm,
		version + "\n:\n":                    api.ErrForm,
		version + "\n\r\r\n":                 api.ErrForm,
		version + "\r\r\n":                   api.ErrForm,
		version + "\nX: a\rb\n":              api.ErrForm,
		version + "\nX: \ra\n":               api.ErrForm,
		version + "\nX: a\r\r\n":             api.ErrForm,
		version + "\nX: a\n b\r\n \r\r\n":    api.ErrForm,
		version + "\nX: a\x00\n":             api.ErrForm,
		version + "\nX: \x00a\n":             api.ErrForm,
		version + "\nX: a\n \x00\n":          api.ErrForm,
		version + "\n\nName: \x00\n":         api.ErrForm,
		"Manifest-Version: \x00\n":           api.ErrForm,
		"Manifest-Version:1.0\n":             api.ErrForm,
		"X: 1\n":                             api.ErrName,
		"Name: q\n":                          api.ErrName,
		"Manifest-Versio: 1.0\n":             api.ErrName,
		"Manifest-Version1: 1.0\n":           api.ErrName,
		"Manifest_Version: 1.0\n":            api.ErrName,
		"Manifest\rVersion: 1.0\n":           api.ErrName,
		"Manife\u017ft-Version: 1.0\n":       api.ErrName,
		"Manifest-Version : 1.0\n":           api.ErrName,
		"X: 1\n" + version + "\n":            api.ErrName,
		"\xef\xbb\xbf" + version + "\n":      api.ErrName,
		": 1.0\n":                            api.ErrName,
		version + "\n: a\n":                  api.ErrName,
		version + "\n:: a\n":                 api.ErrName,
		version + "\nX:: a\n":                api.ErrName,
		version + "\n-X: a\n":                api.ErrName,
		version + "\n_: a\n":                 api.ErrName,
		version + "\nX Y: a\n":               api.ErrName,
		version + "\nX\n  : a\n":             api.ErrName,
		version + "\nX\x00: a\n":             api.ErrName,
		version + "\nX\r: a\n":               api.ErrName,
		version + "\n\rX: a\n":               api.ErrName,
		version + "\n\tX: a\n":               api.ErrName,
		version + "\nÄ: a\n":                 api.ErrName,
		version + "\n\nX: q\n":               api.ErrName,
		version + "\n\n" + version + "\n":    api.ErrName,
		version + "\n\nNames: q\n":           api.ErrName,
		version + "\n\nX: a\nName: q\n":      api.ErrName,
		version + "\n\nName: q\n\nX: q\n":    api.ErrName,
		version + "\n" + version + "\n":      api.ErrTwice,
		version + "\nmanifest-VERSION: 2\n":  api.ErrTwice,
		version + "\nX: a\nx: b\n":           api.ErrTwice,
		version + "\nX: a\nY: c\nX: a\n":     api.ErrTwice,
		version + "\nx\n -y: a\nX-\n Y: b\n": api.ErrTwice,
		version + "\n\nName: q\nname: q\n":   api.ErrTwice,
		version + "\n\nName: q\n\nName: r\nX: a\nX: b\n": api.ErrTwice,
	}
}

// P14.1: texts that aren't parsed.
func TestParseWrong(t *testing.T) {
	for text, want := range wrongTexts() {
		wantParsed(t, text, api.Manifest{}, want)
		if want != api.ErrEnd {
			wantParsed(t, strings.ReplaceAll(text, "\n", "\r\n"), api.Manifest{}, want)
			wantParsed(t, text+"\n\n", api.Manifest{}, want)
			wantParsed(t, text+"x", api.Manifest{}, api.ErrEnd)
			wantParsed(t, text+strings.Repeat("x", 73)+"\n", api.Manifest{}, longBehind(text))
		}
	}
	wantParsed(t, "\x00", api.Manifest{}, api.ErrEnd)
}

// longBehind is what is told of a text with a line behind it that is too long: that line, but for a line of the text itself.
func longBehind(text string) api.Errno {
	_, e := modelLines([]byte(text))
	if e == api.OK {
		return api.ErrLong
	}
	return e
}

// P14.1: a line has at most MaxLine bytes, without its end, wherever it stands.
func TestParseLines(t *testing.T) {
	for n := 60; n < 90; n++ {
		for _, end := range []string{"\n", "\r\n"} {
			want := api.ErrLong
			if n <= 72 {
				want = api.OK
			}
			value := strings.Repeat("v", n-len("X: "))
			for text, m := range map[string]api.Manifest{
				version + end + "X: " + value + end:                             of(headers("X", value)),
				version + end + "X: u" + end + " vv" + value + end:              of(headers("X", "uvv"+value)),
				version + end + end + "Name:" + end + "  v" + value + end:       of(nil, headers("Name", "v"+value)),
				version + end + "X: " + value + end + " w" + end:                of(headers("X", value+"w")),
				version + end + "X: u" + end + " vv" + value + end + " w" + end: of(headers("X", "uvv"+value+"w")),
			} {
				if want != api.OK {
					m = api.Manifest{}
				}
				wantParsed(t, text, m, want)
			}
		}
	}
	wantParsed(t, version+"\nX: "+strings.Repeat("v", 69)+"\r\r\n", api.Manifest{}, api.ErrLong)
	wantParsed(t, version+"\nX: "+strings.Repeat("v", 68)+"\r\r\n", api.Manifest{}, api.ErrForm)
	wantParsed(t, version+"\n"+strings.Repeat("\r", 73)+"\r\n", api.Manifest{}, api.ErrLong)
}

// P14.1: a name has at most 70 bytes, folded or not.
func TestParseNames(t *testing.T) {
	for n := 1; n < 160; n++ {
		name, want := strings.Repeat("n", n), of(headers(strings.Repeat("n", n), "v"))
		e := api.OK
		if n > 70 {
			want, e = api.Manifest{}, api.ErrName
		}
		for cut := 1; cut <= min(n, 72); cut++ {
			if n+3-cut <= 71 {
				wantParsed(t, version+"\n"+name[:cut]+"\n "+name[cut:]+": v\n", want, e)
			}
		}
		for cut := 1; cut < min(n, 72); cut++ {
			text := version + "\n" + name[:cut] + "\n " + name[cut:]
			if n-cut <= 71 {
				wantParsed(t, text+"\n :\n  v\n", want, e)
			}
		}
	}
}

// P14.1: of lines that may not be, the first one is told, ahead of all that is wrong with sections; each header by its first error, ahead of those behind it.
func TestParseFirst(t *testing.T) {
	long, alone := strings.Repeat("l", 73)+"\n", "\n on\n"
	for text, want := range map[string]api.Errno{
		long + alone:                           api.ErrLong,
		alone + long:                           api.ErrForm,
		" " + long:                             api.ErrLong,
		version + "\n\n " + long:               api.ErrLong,
		version + "\n\n \n" + long:             api.ErrForm,
		"X: 1\n" + long:                        api.ErrLong,
		"X: 1\n" + alone:                       api.ErrForm,
		version + "\n" + version + "\n" + long: api.ErrLong,
		"\x00\n" + long:                        api.ErrLong,
		long[:73]:                              api.ErrEnd,
		" x":                                   api.ErrEnd,
		long + "x":                             api.ErrEnd,
	} {
		wantParsed(t, text, api.Manifest{}, want)
	}
	wrong := []struct {
		want           api.Errno
		first, further string
	}{
		{api.ErrForm, "Unparted\n", "Unparted\n"},
		{api.ErrForm, "Manifest-Version: \x00\n", "Y: \r1\n"},
		{api.ErrForm, "-: \x00\n", "Manifest Version: \x00\n"},
		{api.ErrForm, "X: \r1\n", "ahead: \x00\n"},
		{api.ErrName, "X: 1\n", "_Y: 1\n"},
		{api.ErrName, "-: 1\n", ": \n"},
		{api.ErrName, "Manifest-Version : 1\n", "Manifest-Version : 1\n"},
		{api.ErrTwice, version + "\n" + version + "\n", "ahead: 1\n"},
	}
	main, part := version+"\nAhead: \n", "\nName: q\nAHEAD: \n"
	for _, a := range wrong {
		wantParsed(t, a.first, api.Manifest{}, a.want)
		wantParsed(t, main+a.further, api.Manifest{}, a.want)
		for _, b := range wrong {
			wantParsed(t, a.first+b.further, api.Manifest{}, a.want)
			wantParsed(t, a.first+"\n"+b.first, api.Manifest{}, a.want)
			wantParsed(t, main+a.further+b.further, api.Manifest{}, a.want)
			wantParsed(t, main+part+a.further+part+b.further, api.Manifest{}, a.want)
		}
	}
	wantParsed(t, "\nX: \x00\n", api.Manifest{}, api.ErrForm)
	wantParsed(t, version+"\n\nmanifest-version: 1\n", api.Manifest{}, api.ErrName)
}

// P14.1: a text has at most MaxBytes; that is told ahead of all else.
func TestParseGreat(t *testing.T) {
	line := "X: " + strings.Repeat("v", 68) + "\n"
	more := " " + strings.Repeat("w", 71) + "\n"
	text := version + "\n" + line + strings.Repeat(more, (1<<24-len(version)-1-len(line))/len(more))
	value := strings.Repeat("v", 68) + strings.Repeat("w", strings.Count(text, "\n ")*71)
	want := of(headers("X", value))
	if m, e := manifest.Parse([]byte(text)); e != api.OK || !same(m, want) {
		t.Error("folded:", len(text), e)
	}
	full := text + strings.Repeat("\n", 1<<24-len(text))
	if m, e := manifest.Parse([]byte(full)); len(full) != 1<<24 || e != api.OK || !same(m, want) {
		t.Error("1 << 24 bytes:", e)
	}
	for _, text := range []string{full + "\n", full + "x", strings.Repeat("x", 1<<24+1), strings.Repeat("\n", 1<<24+1), full + full} {
		if m, e := manifest.Parse([]byte(text)); e != api.ErrLong || !same(m, api.Manifest{}) {
			t.Error(len(text), "bytes:", e)
		}
	}
	if _, e := manifest.Parse([]byte(full[:1<<24-1] + "x")); e != api.ErrEnd {
		t.Error("1 << 24 bytes without an end:", e)
	}
	if _, e := manifest.Parse([]byte(strings.Repeat("\n", 1<<24))); e != api.ErrForm {
		t.Error("1 << 24 line feeds:", e)
	}
}

// P14.1, P5: as many sections, and as many headers, as go into a text.
func TestParseMany(t *testing.T) {
	part := "Name: \n\n"
	many := (1<<24 - len(version) - 2) / len(part)
	if m, e := manifest.Parse([]byte(version + "\n\n" + strings.Repeat(part, many))); e != api.OK || len(m.Parts) != many || len(m.Parts[many-1]) != 1 {
		t.Error("sections:", len(m.Parts), e)
	}
	text := []byte(version + "\n")
	for i := 0; len(text) < 1<<24-16; i++ {
		text = fmt.Appendf(text, "n%d: \n", i)
	}
	m, e := manifest.Parse(text)
	if e != api.OK || len(m.Main) != strings.Count(string(text), "\n") {
		t.Error("headers:", len(m.Main), e)
	}
	if _, e := manifest.Parse(append(text, "N12345: \n"...)); e != api.ErrTwice {
		t.Error("headers, one of them twice:", e)
	}
}

// pieces are what texts are made of that may be parsed, or nearly so.
func pieces() []string {
	return []string{"\n", "\n", "\n\n", "\r\n", "\r\n", "\r\n\r\n", "\n ", "\r\n ", " ", "\r", ":", ": ", ": a\n", ": b\r\n", "\x00", "é", "\xff", "-", "_", "1", "X", "x", "Y", "k", "\u212a",
		"Name", "NAME", "Name: q\n", "\nname: a/\r\n", "\n\nName: r\n", version, version + "\n", "manifest-VERSION: 2\r\n", "X: 1\n", "x: 2\n", "Y-1: \n", "y_1: : \n", strings.Repeat("l", 35), strings.Repeat("L", 70), strings.Repeat("m", 71), strings.Repeat("M", 72)}
}

// P14.1 and P14.2: texts of pieces put together are parsed as the chapter's words say, and printed so.
func TestParsePieces(t *testing.T) {
	random, told := rand.New(rand.NewSource(1)), map[api.Errno]int{}
	all := pieces()
	for i := range 300000 {
		text := ""
		if i%4 > 0 {
			text = version + "\n"
		}
		for range random.Intn(12) {
			text += all[random.Intn(len(all))]
		}
		if i%8 > 0 {
			text += "\n"
		}
		told[wantAsModel(t, text)]++
	}
	for _, e := range []api.Errno{api.OK, api.ErrLong, api.ErrEnd, api.ErrForm, api.ErrName, api.ErrTwice} {
		if told[e] < 1000 {
			t.Error("hardly ever told:", e, told[e])
		}
	}
}

// P14.1: all texts of a few signs, behind a main section and at the beginning.
func TestParseShort(t *testing.T) {
	signs := []string{"\n", "\r", " ", ":", "X", "x"}
	texts := []string{""}
	for range 6 {
		for _, text := range texts[:len(texts):len(texts)] {
			wantAsModel(t, text+"\n")
			wantAsModel(t, version+"\n"+text+"\n")
		}
		var longer []string
		for _, text := range texts {
			for _, sign := range signs {
				longer = append(longer, text+sign)
			}
		}
		texts = longer
	}
}

// P14.1: a text with each byte left out, doubled, or made another one, and cut at each place.
func TestParseTurned(t *testing.T) {
	text := version + "\r\nX: abc\n d\r\n  e\nY_2-: :\n\n\r\nName: a/b\nx: " + strings.Repeat("v", 69) + "\n v\n\nname: q\n\n"
	wantAsModel(t, text)
	for i := range len(text) {
		wantAsModel(t, text[:i])
		wantAsModel(t, text[:i]+"\n")
		wantAsModel(t, text[:i]+text[i+1:])
		wantAsModel(t, text[i:])
		for n := range 256 {
			sign := string([]byte{byte(n)})
			wantAsModel(t, text[:i]+sign+text[i+1:])
			wantAsModel(t, text[:i]+sign+text[i:])
		}
	}
}

// Rules: what was parsed shares nothing with the text, nor do its sections with each other.
func TestParseMemory(t *testing.T) {
	text := version + "\nX: a\nY: b\n\nName: q\nX: b\n\nName: r\n"
	want, _ := modelParse([]byte(text))
	kept := sections(want)
	for i := range kept {
		b := []byte(text)
		got, _ := manifest.Parse(b)
		again, _ := manifest.Parse(b)
		clear(b)
		all := sections(got)
		clear(append(all[i], api.Pair{Name: "grown"}))
		clear(all[i])
		for k := range all {
			if k != i && !slices.Equal(all[k], kept[k]) {
				t.Error("shared memory:", i, k, all[k])
			}
		}
		if !same(again, want) {
			t.Error("shared with another answer, or with the text:", again)
		}
	}
}

// sections are a manifest's, the main one first.
func sections(m api.Manifest) [][]api.Pair { return append([][]api.Pair{m.Main}, m.Parts...) }
