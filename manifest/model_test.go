package manifest_test

import (
	"slices"
	"testing"

	"packsaddle/api"
	"packsaddle/manifest"
)

// What follows reads and prints by the chapter's words, in another way than the program: byte by byte, with all numbers written out.

// rawLines are a text's lines, without their ends.
func rawLines(b []byte) []string {
	var out []string
	line := []byte{}
	for _, c := range b {
		if c != 10 {
			line = append(line, c)
			continue
		}
		if n := len(line); n > 0 && line[n-1] == 13 {
			line = line[:n-1]
		}
		out = append(out, string(line))
		line = nil
	}
	return out
}

// modelLines are the unfolded lines of each section.
func modelLines(b []byte) ([][]string, api.Errno) {
	var out [][]string
	inside := false // a line stands ahead in its section
	for _, line := range rawLines(b) {
		if len(line) > 72 {
			return nil, api.ErrLong
		}
		switch {
		case line == "":
			inside = false
		case line[0] == 32 && !inside:
			return nil, api.ErrForm
		case line[0] == 32:
			last := out[len(out)-1]
			last[len(last)-1] += line[1:]
		case inside:
			out[len(out)-1] = append(out[len(out)-1], line)
		default:
			out, inside = append(out, []string{line}), true
		}
	}
	return out, api.OK
}

func isOneOf(b byte, signs string) bool {
	for i := range len(signs) {
		if signs[i] == b {
			return true
		}
	}
	return false
}

const signsOfNames = "abcdefghijklmnopqrstuvwxyzABCDEFGHIJKLMNOPQRSTUVWXYZ0123456789_-"

func modelName(s string) bool {
	for i := range len(s) {
		if !isOneOf(s[i], signsOfNames) {
			return false
		}
	}
	return len(s) != 0 && len(s) < 71 && s[0] != '_' && s[0] != '-'
}

// alike asks whether names are, letters being the same, small or great.
func alike(a, b string) bool {
	if len(a) != len(b) {
		return false
	}
	for i := range len(a) {
		x, y := a[i], b[i]
		if y < x {
			x, y = y, x
		}
		if x != y && !(y-x == 32 && x >= 65 && x <= 90) {
			return false
		}
	}
	return true
}

// modelHeader tells what is wrong with a header, some standing ahead of it in its section.
func modelHeader(h api.Pair, ahead []api.Pair, first string) api.Errno {
	for i := range len(h.Value) {
		if isOneOf(h.Value[i], "\x00\x0a\x0d") {
			return api.ErrForm
		}
	}
	if !modelName(h.Name) || len(ahead) == 0 && !alike(h.Name, first) {
		return api.ErrName
	}
	for _, x := range ahead {
		if alike(x.Name, h.Name) {
			return api.ErrTwice
		}
	}
	return api.OK
}

func modelFirst(section int) string {
	if section == 0 {
		return "Manifest-Version"
	}
	return "Name"
}

// modelCut cuts a line at the first ": ".
func modelCut(line string) (api.Pair, bool) {
	for i := 1; i < len(line); i++ {
		if line[i-1] == 58 && line[i] == 32 {
			return api.Pair{Name: line[:i-1], Value: line[i+1:]}, true
		}
	}
	return api.Pair{}, false
}

func modelParse(b []byte) (api.Manifest, api.Errno) {
	if len(b) > 16777216 {
		return api.Manifest{}, api.ErrLong
	}
	if len(b) == 0 || b[len(b)-1] != 10 {
		return api.Manifest{}, api.ErrEnd
	}
	sections, e := modelLines(b)
	if e != api.OK {
		return api.Manifest{}, e
	}
	var all [][]api.Pair
	for i, lines := range sections {
		var section []api.Pair
		for _, line := range lines {
			h, parted := modelCut(line)
			if !parted {
				return api.Manifest{}, api.ErrForm
			}
			if e := modelHeader(h, section, modelFirst(i)); e != api.OK {
				return api.Manifest{}, e
			}
			section = append(section, h)
		}
		all = append(all, section)
	}
	if len(all) == 0 {
		return api.Manifest{}, api.ErrForm
	}
	return api.Manifest{Main: all[0], Parts: all[1:]}, api.OK
}

// modelLine appends a line, folded, with its ends.
func modelLine(b []byte, line string) []byte {
	column := 0
	for i := range len(line) {
		if column == 72 {
			b, column = append(b, 13, 10, 32), 1
		}
		b, column = append(b, line[i]), column+1
	}
	return append(b, 13, 10)
}

func modelPrint(m api.Manifest) ([]byte, api.Errno) {
	var out []byte
	for i := range 1 + len(m.Parts) {
		section := m.Main
		if i > 0 {
			section = m.Parts[i-1]
		}
		if len(section) == 0 {
			return nil, api.ErrForm
		}
		for k, h := range section {
			if e := modelHeader(h, section[:k], modelFirst(i)); e != api.OK {
				return nil, e
			}
			out = modelLine(out, h.Name+": "+h.Value)
		}
		out = append(out, 13, 10)
	}
	return out, api.OK
}

// headers are of names and values by turns.
func headers(s ...string) []api.Pair {
	var out []api.Pair
	for pair := range slices.Chunk(s, 2) {
		out = append(out, api.Pair{Name: pair[0], Value: pair[1]})
	}
	return out
}

// of is a manifest of a main section of these headers, behind Manifest-Version, and of these others.
func of(main []api.Pair, parts ...[]api.Pair) api.Manifest {
	return api.Manifest{Main: append(headers("Manifest-Version", "1.0"), main...), Parts: parts}
}

// same asks whether manifests are: what is nil and what is empty are one.
func same(a, b api.Manifest) bool {
	return slices.Equal(a.Main, b.Main) && slices.EqualFunc(a.Parts, b.Parts, slices.Equal[[]api.Pair])
}

// short is a text, as much of it as a message bears.
func short(b []byte) string {
	if len(b) > 600 {
		return string(b[:300]) + " ... " + string(b[len(b)-300:])
	}
	return string(b)
}

// wantParsed asks that a text is parsed as told; and, if it is, that what is printed of it is parsed to the same.
func wantParsed(t *testing.T, text string, want api.Manifest, wrong api.Errno) {
	t.Helper()
	b := []byte(text)
	got, e := manifest.Parse(b)
	if e != wrong || !same(got, want) {
		t.Errorf("%q: %d, want %d", short(b), e, wrong)
	}
	if string(b) != text {
		t.Errorf("%q: changed", short(b))
	}
	if e == api.OK {
		wantPrinted(t, got)
	}
}

// wantAsModel asks that a text is parsed as the chapter's words say.
func wantAsModel(t *testing.T, text string) api.Errno {
	t.Helper()
	want, e := modelParse([]byte(text))
	wantParsed(t, text, want, e)
	return e
}

func copied(m api.Manifest) api.Manifest {
	out := api.Manifest{Main: slices.Clone(m.Main)}
	for _, p := range m.Parts {
		out.Parts = append(out.Parts, slices.Clone(p))
	}
	return out
}

// wantPrinted asks that a manifest is printed as the chapter's words say; and that what is printed is parsed to it.
func wantPrinted(t *testing.T, m api.Manifest) api.Errno {
	t.Helper()
	kept := copied(m)
	want, wrong := modelPrint(m)
	got, e := manifest.Print(m)
	if e != wrong || string(got) != string(want) {
		t.Errorf("%q printed: %q, %d; want %q, %d", m, short(got), e, short(want), wrong)
	}
	if !same(m, kept) {
		t.Errorf("%q: changed", m)
	}
	if e == api.OK {
		if again, wrong := manifest.Parse(got); wrong != api.OK || !same(again, kept) {
			t.Errorf("%q parsed: %d", short(got), wrong)
		}
	}
	return e
}
