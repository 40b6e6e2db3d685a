package desc_test

import (
	"regexp"
	"slices"
	"strings"
	"testing"

	"packsaddle/desc"
)

// What follows answers by the chapter's words, in another way than the program: by patterns of rows, in which each byte is a sign of that number.

// The signs of right rows, without ".", "/", ";" and "["; those of a method's name have no "<" and ">" either.
const (
	moreBytes  = `|\xc0\x80|[\xc2-\xdf][\x80-\xbf]|\xe0[\xa0-\xbf][\x80-\xbf]|[\xe1-\xef][\x80-\xbf][\x80-\xbf]`
	sign       = `(?:[\x01-\x2d\x30-\x3a\x3c-\x5a\x5c-\x7f]` + moreBytes + `)`
	methodSign = `(?:[\x01-\x2d\x30-\x3a\x3d\x3f-\x5a\x5c-\x7f]` + moreBytes + `)`
)

const (
	class = sign + `+(?:/` + sign + `+)*`
	flat  = `(?:[BCDFIJSZ]|L` + class + `;)`
	field = `(?:\[{0,255}` + flat + `)`
)

var (
	memberRow = pattern(sign + `+`)
	methodRow = pattern(methodSign + `+|<init>|<clinit>`)
	classRow  = pattern(class)
	namedRow  = pattern(class + `|\[{1,255}` + flat)
	fieldRow  = pattern(field)
	wholeRow  = pattern(`\((` + field + `*)\)(` + field + `|V)`)
	oneField  = regexp.MustCompile(field)
)

func pattern(s string) *regexp.Regexp { return regexp.MustCompile(`\A(?:` + s + `)\z`) }

// signs are bytes as signs of their numbers.
func signs(row string) string {
	out := make([]rune, len(row))
	for i := range len(row) {
		out[i] = rune(row[i])
	}
	return string(out)
}

// unsign are the bytes again.
func unsign(text string) string {
	var out []byte
	for _, r := range text {
		out = append(out, byte(r))
	}
	return string(out)
}

func modelDims(row string) int {
	for i := range len(row) {
		if row[i] != '[' {
			return i
		}
	}
	return len(row)
}

func modelRoom(row string) int {
	if !fieldRow.MatchString(signs(row)) {
		return 0
	}
	return max(1, 2*strings.Count("JD", row))
}

func modelParams(row string) ([]string, string, bool) {
	found := wholeRow.FindStringSubmatch(signs(row))
	if found == nil {
		return nil, "", false
	}
	params := oneField.FindAllString(found[1], -1)
	for i, p := range params {
		params[i] = unsign(p)
	}
	return params, unsign(found[2]), true
}

func modelRooms(row string) (int, bool) {
	params, _, right := modelParams(row)
	rooms := 0
	for _, p := range params {
		rooms += modelRoom(p)
	}
	if !right || rooms > 255 {
		return 0, false
	}
	return rooms, true
}

// wantRow asks for all that is answered of a row.
func wantRow(t *testing.T, row string) {
	t.Helper()
	text := signs(row)
	for _, asked := range []struct {
		name      string
		got, want bool
	}{
		{"Member", desc.Member(row), memberRow.MatchString(text)},
		{"Method", desc.Method(row), methodRow.MatchString(text)},
		{"Class", desc.Class(row), classRow.MatchString(text)},
		{"Named", desc.Named(row), namedRow.MatchString(text)},
		{"Field", desc.Field(row), fieldRow.MatchString(text)},
	} {
		if asked.got != asked.want {
			t.Errorf("%s of %q: %v", asked.name, short(row), asked.got)
		}
	}
	if got, want := desc.Dims(row), modelDims(row); got != want {
		t.Errorf("Dims of %q: %d, want %d", short(row), got, want)
	}
	if got, want := desc.Room(row), modelRoom(row); got != want {
		t.Errorf("Room of %q: %d, want %d", short(row), got, want)
	}
	params, answer, right := modelParams(row)
	wantParams(t, row, params, answer, right)
	rooms, right := modelRooms(row)
	wantRooms(t, row, rooms, right)
}

// wantParams asks for just these, and that the descriptor is made of them.
func wantParams(t *testing.T, row string, params []string, answer string, right bool) {
	t.Helper()
	got, behind, ok := desc.Params(row)
	if ok != right || behind != answer || !slices.Equal(got, params) {
		t.Errorf("Params of %q: %q, %q, %v; want %q, %q, %v", short(row), got[:min(len(got), 9)], short(behind), ok, params[:min(len(params), 9)], short(answer), right)
	}
	if again := "(" + strings.Join(got, "") + ")" + behind; ok && again != row {
		t.Errorf("%q is told as %q", short(row), short(again))
	}
}

func wantRooms(t *testing.T, row string, rooms int, right bool) {
	t.Helper()
	if got, ok := desc.Rooms(row); got != rooms || ok != right {
		t.Errorf("Rooms of %q: %d, %v; want %d, %v", short(row), got, ok, rooms, right)
	}
}

// short is a row, as much of it as a message bears.
func short(row string) string {
	if len(row) > 80 {
		return row[:40] + " ... " + row[len(row)-40:]
	}
	return row
}
