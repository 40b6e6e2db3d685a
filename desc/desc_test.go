package desc_test

import (
	"math/rand"
	"slices"
	"strings"
	"testing"

	"packsaddle/desc"
)

// P17.1: fields' descriptors, their rooms and dimensions.
func TestFields(t *testing.T) {
	for _, c := range []struct {
		row        string
		room, dims int
	}{
		{"B", 1, 0}, {"C", 1, 0}, {"D", 2, 0}, {"F", 1, 0}, {"I", 1, 0}, {"J", 2, 0}, {"S", 1, 0}, {"Z", 1, 0},
		{"La;", 1, 0}, {"La/b/C;", 1, 0}, {"LJ;", 1, 0}, {"LD;", 1, 0}, {"L<>;", 1, 0}, {"L(;", 1, 0}, {"LL;", 1, 0}, {"L)V;", 1, 0}, {"L\xc0\x80;", 1, 0},
		{"[I", 1, 1}, {"[J", 1, 1}, {"[D", 1, 1}, {"[[D", 1, 2}, {"[[[La;", 1, 3},
		{strings.Repeat("[", 255) + "J", 1, 255}, {strings.Repeat("[", 255) + "La/b;", 1, 255},
	} {
		if !desc.Field(c.row) || desc.Room(c.row) != c.room || desc.Dims(c.row) != c.dims {
			t.Errorf("%q: %v, %d, %d", short(c.row), desc.Field(c.row), desc.Room(c.row), desc.Dims(c.row))
		}
		wantRow(t, c.row)
	}
}

// P17.1: what is no field's descriptor has no room, but it may begin with "[".
func TestNoFields(t *testing.T) {
	for row, dims := range map[string]int{
		"": 0, "V": 0, "A": 0, "b": 0, "L": 0, ";": 0, "L;": 0, "La": 0, "La;;": 0, "L;a;": 0, "La;I": 0, "II": 0, "JJ": 0, "JD": 0, "I ": 0, " I": 0, "a": 0,
		"La.b;": 0, "L/a;": 0, "La/;": 0, "La//b;": 0, "L[I;": 0, "La[;": 0, "()V": 0, "(I)J": 0, "I[": 0, "J[": 0,
		"L\x00;": 0, "L\x80;": 0, "La\xc3;": 0, "L\xc1\x81;": 0,
		"[": 1, "[[": 2, "[V": 1, "[L": 1, "[[La": 2, "[]": 1, "[I[": 1, "[()V": 1, "[ I": 1,
		strings.Repeat("[", 255):         255,
		strings.Repeat("[", 255) + "V":   255,
		strings.Repeat("[", 256) + "I":   256,
		strings.Repeat("[", 257) + "La;": 257,
		strings.Repeat("[", 70000) + "J": 70000,
	} {
		if desc.Field(row) || desc.Room(row) != 0 || desc.Dims(row) != dims {
			t.Errorf("%q: %v, %d, %d", short(row), desc.Field(row), desc.Room(row), desc.Dims(row))
		}
		wantRow(t, row)
	}
}

// P17.1, P17.2: methods' descriptors, what they are made of, and their rooms.
func TestMethods(t *testing.T) {
	deep := strings.Repeat("[", 255) + "D"
	for _, c := range []struct {
		params []string
		answer string
		rooms  int
	}{
		{nil, "V", 0},
		{nil, "J", 0},
		{nil, "[[La/b;", 0},
		{nil, deep, 0},
		{[]string{"I", "J", "[D"}, "V", 4},
		{[]string{"La/b;", "[[I"}, "J", 2},
		{[]string{"B", "C", "D", "F", "I", "J", "S", "Z"}, "Z", 10},
		{[]string{"La;", "[Lb/C;", "I"}, "La;", 3},
		{[]string{"LI;", "I", "L);", "L()V;", "J"}, "L);", 6},
		{[]string{"LLa;", "La;"}, "V", 2},
		{[]string{deep, "D", deep}, deep, 4},
		{[]string{"L\xe6\x97\xa5/\xc0\x80;", "D"}, "L\xc3\xa9;", 3},
	} {
		row := "(" + strings.Join(c.params, "") + ")" + c.answer
		wantParams(t, row, c.params, c.answer, true)
		wantRooms(t, row, c.rooms, true)
		wantRow(t, row)
	}
}

// P17.1: what is no method's descriptor has no parameters, no answer, and no rooms.
func TestNoMethods(t *testing.T) {
	for _, row := range []string{
		"", "(", ")", "()", "V", "I", "[I", "(V", "(I", ")V", "I)V", "(V)V", "(I)", "(I)VV", "(I)IV", "(I)II", "(I)V)", "((I)V", "(I))V", "(()V)V", " ()V", "() V", "()V ", "<init>", "()A", "()[V", "()[", "()L;", "()La",
		"(L)V", "(L;)V", "(La)V", "([)V", "([V)V", "(I[)V", "(IA)V", "(I,J)V", "(La;;)V", "(La.b;)V", "(L/;)V", "(L[I;)V", "(La;I", "(La/b;)L/b;", "[()V",
		"(L\x00;)V", "(L\xc3;\xa9)V", "()L\x80;", "(\xc3\xa9)V",
		"(" + strings.Repeat("[", 256) + "I)V", "()" + strings.Repeat("[", 256) + "I", "(I" + strings.Repeat("[", 256) + "La;)V",
	} {
		wantParams(t, row, nil, "", false)
		wantRooms(t, row, 0, false)
		wantRow(t, row)
	}
}

// P17.1: rooms up to 255, and no more; the parameters are told all the same.
func TestMostRooms(t *testing.T) {
	for _, c := range []struct {
		one, two int
		right    bool
	}{
		{254, 0, true}, {255, 0, true}, {256, 0, false}, {257, 0, false}, {0, 127, true}, {1, 127, true}, {2, 127, false}, {0, 128, false}, {253, 1, true}, {254, 1, false}, {65536, 0, false}, {0, 65536, false},
	} {
		for _, one := range []string{"I", "[J", "La;"} {
			for _, two := range []string{"J", "D"} {
				rooms := 0
				if c.right {
					rooms = c.one + 2*c.two
				}
				params := append(slices.Repeat([]string{one}, c.one), slices.Repeat([]string{two}, c.two)...)
				row := "(" + strings.Join(params, "") + ")D"
				wantParams(t, row, params, "D", true)
				wantRooms(t, row, rooms, c.right)
				slices.Reverse(params)
				wantRooms(t, "("+strings.Join(params, "")+")V", rooms, c.right)
			}
		}
	}
}

// P17.1: each byte, and each two, in each place.
func TestEveryByte(t *testing.T) {
	for b := range 256 {
		one := string([]byte{byte(b)})
		for _, frame := range [][2]string{{"", ""}, {"a", ""}, {"", "a"}, {"a", "b"}, {"a/", "/b"}, {"[", ""}, {"[L", ";"}, {"L", ";"}, {"L", "a;"}, {"La", ";"}, {"L", ""}, {"(", ")V"}, {"(I", ")V"}, {"(", "I)V"}, {"(", "V"}, {"()", ""}, {"(I)", ""}, {"()V", ""}, {"", ")V"}, {"(La", ";)V"}, {"(La;", "La;)V"}, {"()La", ";"}, {"<init", ""}, {"", "init>"}} {
			wantRow(t, frame[0]+one+frame[1])
		}
		for second := range 256 {
			two := one + string([]byte{byte(second)})
			wantRow(t, two)
			wantRow(t, "L"+two+";")
			wantRow(t, "("+two+")"+one)
		}
	}
}

// P17.1: all short rows of the bytes that stand for something.
func TestShortRows(t *testing.T) {
	for _, c := range []struct {
		pieces []string
		most   int
	}{
		{[]string{"(", ")", "[", "L", ";", "/", ".", "<", "I", "J", "V", "a", "\x00", "\xc0", "\x80"}, 4},
		{[]string{"(", ")", "[", "L", ";", "/", "I", "V"}, 6},
		{[]string{"L", ";", "/", "["}, 8},
		{[]string{"(", ")", "I", "V", "[D", "La;"}, 6},
	} {
		last := []string{""}
		for range c.most {
			var next []string
			for _, row := range last {
				for _, piece := range c.pieces {
					wantRow(t, row+piece)
					next = append(next, row+piece)
				}
			}
			last = next
		}
	}
}

// P17.1: every cut and changed byte of a descriptor.
func TestChanged(t *testing.T) {
	const row = "(IJ[D[[La/b;L\xc3\xa9;Z[Lc/d/\xe6\x97\xa5;)[LA/B;"
	wantParams(t, row, []string{"I", "J", "[D", "[[La/b;", "L\xc3\xa9;", "Z", "[Lc/d/\xe6\x97\xa5;"}, "[LA/B;", true)
	for i := range len(row) + 1 {
		wantRow(t, row[:i])
		wantRow(t, row[i:])
		for j := i; j <= len(row); j++ {
			wantRow(t, row[:i]+row[j:])
		}
		for b := range 256 {
			one := string([]byte{byte(b)})
			wantRow(t, row[:i]+one+row[i:])
			if i < len(row) {
				wantRow(t, row[:i]+one+row[i+1:])
			}
		}
	}
}

// P17.1, P17.2: descriptors put together at random, and others like them.
func TestRandom(t *testing.T) {
	r := rand.New(rand.NewSource(17))
	names := []string{"a", "I", "V", "(", ")", "<", "Ljava", "\xc0\x80", "\xe6\x97\xa5", "\xed\xa0\xbd\xed\xb8\x80", "$1", ")V"}
	one := func() string {
		dims := strings.Repeat("[", max(0, r.Intn(6)-3))
		if r.Intn(3) > 0 {
			return dims + "BCDFIJSZ"[r.Intn(8):][:1]
		}
		parts := make([]string, 1+r.Intn(3))
		for i := range parts {
			parts[i] = names[r.Intn(len(names))] + names[r.Intn(len(names))]
		}
		return dims + "L" + strings.Join(parts, "/") + ";"
	}
	for range 20000 {
		params, answer := make([]string, r.Intn(12)), "V"
		for i := range params {
			params[i] = one()
		}
		if r.Intn(2) == 0 {
			answer = one()
		}
		row := "(" + strings.Join(params, "") + ")" + answer
		wantParams(t, row, params, answer, true)
		wantRow(t, row)
		i, j := r.Intn(len(row)), r.Intn(len(row)+1)
		wantRow(t, row[:i]+"()[;/.LVIJ\x00\xc0\x80<>"[r.Intn(15):][:1]+row[i+1:])
		wantRow(t, row[min(i, j):max(i, j)])
		wantRow(t, row[:i]+row[j:])
	}
}

// P17.1: rows of many descriptors, of a long name, and of one piece again and again.
func TestGreat(t *testing.T) {
	const many = 1 << 20
	for _, one := range []string{"I", "La;", "[[J", "L\xe6\x97\xa5/b;"} {
		row := "(" + strings.Repeat(one, many) + ")V"
		wantParams(t, row, slices.Repeat([]string{one}, many), "V", true)
		wantRooms(t, row, 0, false)
		for _, wrong := range []string{row[1:], row[:len(row)-1], row[:len(row)-2], row + "V", row[:len(row)-2] + "L)V", row[:len(row)-2] + "[)V"} {
			wantParams(t, wrong, nil, "", false)
			wantRooms(t, wrong, 0, false)
		}
	}
	long := "L" + strings.Repeat("a/", many) + "b;"
	wantParams(t, "(J"+long+"["+long+")"+long, []string{"J", long, "[" + long}, long, true)
	wantRooms(t, "(J"+long+"["+long+")"+long, 4, true)
	for _, piece := range []string{"[", "L", "(", ")", ";", "/", "(L", "[L", "L;", "[I", "(I)V", "()"} {
		for _, frame := range [][2]string{{"", ""}, {"(", ")V"}, {"(", ""}, {"L", ""}, {"[", "I"}} {
			row := frame[0] + strings.Repeat(piece, many) + frame[1]
			params := 0
			if piece == "[I" && frame[1] == ")V" {
				params = many
			}
			if got, _, ok := desc.Params(row); len(got) != params || ok != (params > 0) || desc.Field(row) {
				t.Errorf("%q: %d, %v", short(row), len(got), ok)
			}
			if got, ok := desc.Rooms(row); ok || got != 0 || desc.Room(row) != 0 {
				t.Errorf("%q: %d, %v", short(row), got, ok)
			}
		}
	}
	if n := desc.Dims(strings.Repeat("[", many) + "L"); n != many {
		t.Error(n)
	}
}

// P17.1: an answer is the caller's own.
func TestOwn(t *testing.T) {
	const row = "(IJ[D)V"
	first, _, _ := desc.Params(row)
	second, _, _ := desc.Params(row)
	first[0], first[2] = "x", "y"
	if !slices.Equal(second, []string{"I", "J", "[D"}) {
		t.Errorf("one answer is another one's: %q", second)
	}
	wantRooms(t, row, 4, true)
}
