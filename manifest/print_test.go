package manifest_test

import (
	"fmt"
	"math/rand"
	"slices"
	"strings"
	"testing"

	"packsaddle/api"
	"packsaddle/manifest"
)

func wantText(t *testing.T, m api.Manifest, want string) {
	t.Helper()
	if b, e := manifest.Print(m); e != api.OK || string(b) != want {
		t.Errorf("%q: %q, %d; want %q", m, b, e, want)
	}
	wantPrinted(t, m)
}

// P14.1: manifests that are printed: lines ended by carriage return and line feed, sections by an empty one.
func TestPrint(t *testing.T) {
	x := func(n int) string { return strings.Repeat("x", n) }
	wantText(t, of(nil), version+"\r\n\r\n")
	wantText(t, of([]api.Pair{}, [][]api.Pair{}...), version+"\r\n\r\n")
	wantText(t, of(headers("X", "ab"), headers("Name", "q")), version+"\r\nX: ab\r\n\r\nName: q\r\n\r\n")
	wantText(t, of(headers("b", "", "A", " ", "Name", ": ")), version+"\r\nb: \r\nA:  \r\nName: : \r\n\r\n")
	wantText(t, of(nil, headers("Name", "q"), headers("Name", "q", "X", "1"), headers("NAME", "", "manifest-version", "2")), version+"\r\n\r\nName: q\r\n\r\nName: q\r\nX: 1\r\n\r\nNAME: \r\nmanifest-version: 2\r\n\r\n")
	wantText(t, api.Manifest{Main: headers("mANIFEST-vERSION", ""), Parts: [][]api.Pair{headers("nAme", "ä\xff\t\x01")}}, "mANIFEST-vERSION: \r\n\r\nnAme: ä\xff\t\x01\r\n\r\n")
	wantText(t, of(headers("X", x(69))), version+"\r\nX: "+x(69)+"\r\n\r\n")
	wantText(t, of(headers("X", x(70))), version+"\r\nX: "+x(69)+"\r\n x\r\n\r\n")
	wantText(t, of(headers("X", x(69+71))), version+"\r\nX: "+x(69)+"\r\n "+x(71)+"\r\n\r\n")
	wantText(t, of(headers("X", x(69+71)+" y")), version+"\r\nX: "+x(69)+"\r\n "+x(71)+"\r\n  y\r\n\r\n")
	wantText(t, of(headers(x(70), "")), version+"\r\n"+x(70)+": \r\n\r\n")
	wantText(t, of(headers(x(70), " ")), version+"\r\n"+x(70)+": \r\n  \r\n\r\n")
	wantText(t, of(headers(x(69), "é")), version+"\r\n"+x(69)+": \xc3\r\n \xa9\r\n\r\n")
}

func wantUnprinted(t *testing.T, m api.Manifest, want api.Errno) {
	t.Helper()
	kept := copied(m)
	if b, e := manifest.Print(m); e != want || len(b) != 0 {
		t.Errorf("%q: %q, %d; want %d", m, short(b), e, want)
	}
	if !same(m, kept) {
		t.Errorf("%q: changed", m)
	}
}

// P14.1: sections without headers, values and names that may not be, and names twice, wherever they stand.
func TestPrintWrong(t *testing.T) {
	good := headers("Name", "q")
	wantUnprinted(t, api.Manifest{}, api.ErrForm)
	wantUnprinted(t, api.Manifest{Main: []api.Pair{}, Parts: [][]api.Pair{good}}, api.ErrForm)
	wantUnprinted(t, of(nil, nil), api.ErrForm)
	wantUnprinted(t, of(nil, []api.Pair{}), api.ErrForm)
	wantUnprinted(t, of(nil, good, nil, good), api.ErrForm)
	wantUnprinted(t, of(nil, good, good, nil), api.ErrForm)
	wrong := map[api.Errno][]api.Pair{
		api.ErrTwice: headers("X", "1", "x", "2", "X", ""),
	}
	for _, value := range []string{"\n", "\r", "\x00", "a\n", "\na", "a\r\n", "a\r\n b", "\ra", "a\x00b", "a\nX: b", strings.Repeat("v", 500) + "\x00", "\xff\n", "é\r"} {
		wrong[api.ErrForm] = append(wrong[api.ErrForm], api.Pair{Name: "X", Value: value})
	}
	for _, name := range []string{"", "-", "_", "-X", " ", "X ", " X", "X:", "X: a", ":", "X\n", "X\r", "X\x00", "X\nY", "Ä", "\xff", "Y\u212a", "X.Y", strings.Repeat("n", 71), strings.Repeat("n", 1<<20)} {
		wrong[api.ErrName] = append(wrong[api.ErrName], api.Pair{Name: name, Value: "v"})
	}
	for want, all := range wrong {
		for _, h := range all {
			ahead, behind := api.Pair{Name: "x", Value: ""}, api.Pair{Name: "y", Value: "v"}
			if want != api.ErrTwice {
				ahead.Name = "z"
			}
			wantUnprinted(t, of([]api.Pair{ahead, h}), want)
			wantUnprinted(t, of([]api.Pair{ahead, h, behind}, good), want)
			wantUnprinted(t, of([]api.Pair{ahead, behind, h}), want)
			wantUnprinted(t, of(nil, []api.Pair{good[0], ahead, behind, h}), want)
			wantUnprinted(t, of([]api.Pair{ahead}, good, []api.Pair{good[0], ahead, h}, good), want)
		}
	}
	wantPrinted(t, of(headers("X", "1"), headers("Name", "q", "x", "2"), headers("Name", "q", "X", "3")))
	wantUnprinted(t, of(headers("manifest-VERSION", "1.0")), api.ErrTwice)
	wantUnprinted(t, of(nil, headers("Name", "q", "NAME", "q")), api.ErrTwice)
}

// P14.1: the main section begins with Manifest-Version, each other one with Name, letters being small or great.
func TestPrintFirst(t *testing.T) {
	for name, main := range map[string]bool{"Manifest-Version": true, "MANIFEST-version": true, "Name": false, "nAME": false} {
		h := []api.Pair{{Name: name, Value: "v"}, {Name: "X", Value: "v"}}
		if main {
			wantPrinted(t, api.Manifest{Main: h})
			wantUnprinted(t, of(nil, h), api.ErrName)
			wantUnprinted(t, of(nil, headers("Name", ""), h), api.ErrName)
		} else {
			wantUnprinted(t, api.Manifest{Main: h}, api.ErrName)
			wantPrinted(t, of(nil, h))
			wantPrinted(t, of(nil, headers("Name", ""), h))
		}
	}
	for _, name := range []string{"X", "Manifest_Version", "Manifest-Versio", "Manifest-Versions", "Manifest", "anifest-Version", "Manife\u017ft-Version", "Names", "Nam", "", "Name:", "Manifest-Version:", "Name\x00", "-Name"} {
		h := []api.Pair{{Name: name, Value: "v"}}
		wantUnprinted(t, api.Manifest{Main: h}, api.ErrName)
		wantUnprinted(t, api.Manifest{Main: append(h, api.Pair{Name: "Manifest-Version", Value: "1.0"})}, api.ErrName)
		wantUnprinted(t, of(nil, h), api.ErrName)
		wantUnprinted(t, of(nil, append(h, api.Pair{Name: "Name", Value: "q"})), api.ErrName)
	}
}

// P14.1: of two errors that one is told whose section, then whose header comes first; in one header the value's ahead of the name's, and that ahead of a name's that stands twice.
func TestPrintOrder(t *testing.T) {
	type wrong struct {
		want    api.Errno
		section []api.Pair
	}
	version, name := api.Pair{Name: "Manifest-Version"}, api.Pair{Name: "Name"}
	further := []wrong{
		{api.ErrForm, headers("X", "\n")},
		{api.ErrForm, headers("X:", "\r")},
		{api.ErrForm, headers("ahead", "\x00")},
		{api.ErrName, headers("X:", "")},
		{api.ErrName, headers("", "")},
		{api.ErrTwice, headers("AHEAD", "")},
	}
	all := []wrong{{api.ErrForm, nil}, {api.ErrForm, headers("X", "\n")}, {api.ErrForm, headers(":", "\n")}, {api.ErrName, headers("X", "")}}
	for _, a := range further {
		for _, b := range further {
			all = append(all, wrong{a.want, slices.Concat(headers("", "", "ahead", ""), a.section, b.section)})
		}
	}
	with := func(s []api.Pair, first api.Pair) []api.Pair {
		if len(s) > 2 {
			s = slices.Clone(s)
			s[0] = first
		}
		return s
	}
	for _, a := range all {
		wantUnprinted(t, api.Manifest{Main: with(a.section, version)}, a.want)
		wantUnprinted(t, api.Manifest{Main: []api.Pair{version}, Parts: [][]api.Pair{{name}, with(a.section, name)}}, a.want)
		for _, b := range all {
			wantUnprinted(t, api.Manifest{Main: with(a.section, version), Parts: [][]api.Pair{with(b.section, name)}}, a.want)
			wantUnprinted(t, api.Manifest{Main: []api.Pair{version}, Parts: [][]api.Pair{with(a.section, name), {name}, with(b.section, name)}}, a.want)
		}
	}
}

// anyPair is a header, now and then one that may not be.
func anyPair(random *rand.Rand) api.Pair {
	names := []string{"X", "x", "Y-1", "y_1", "Class-Path", "Sealed", "1", strings.Repeat("n", 1+random.Intn(70)), fmt.Sprint("N", random.Intn(50)), fmt.Sprint("n", random.Intn(50))}
	values := []string{"", " ", "1.0", ": ", "true", "é\xff", "\t\x01", " \x7f ", strings.Repeat("long ", random.Intn(90)), strings.Repeat("v", random.Intn(220)), strings.Repeat(" ", random.Intn(220))}
	h := api.Pair{Name: names[random.Intn(len(names))], Value: values[random.Intn(len(values))]}
	switch random.Intn(60) {
	case 0:
		h.Value += string("\n\r\x00"[random.Intn(3)])
	case 1:
		h.Name += string(" :.\n\x00é"[random.Intn(5)])
	}
	return h
}

func anySection(random *rand.Rand, first string) []api.Pair {
	if random.Intn(40) == 0 {
		return nil
	}
	if random.Intn(40) == 0 {
		first = "X-" + first
	}
	out := []api.Pair{{Name: first, Value: anyPair(random).Value}}
	for range random.Intn(5) {
		out = append(out, anyPair(random))
	}
	return out
}

// P14.1 and P14.2: manifests of all shapes are printed as the chapter's words say, and parsed to the same.
func TestPrintAny(t *testing.T) {
	random, told := rand.New(rand.NewSource(2)), map[api.Errno]int{}
	for range 50000 {
		m := api.Manifest{Main: anySection(random, []string{"Manifest-Version", "MANIFEST-version"}[random.Intn(2)])}
		for range random.Intn(4) {
			m.Parts = append(m.Parts, anySection(random, []string{"Name", "nAmE"}[random.Intn(2)]))
		}
		told[wantPrinted(t, m)]++
	}
	for _, e := range []api.Errno{api.OK, api.ErrForm, api.ErrName, api.ErrTwice} {
		if told[e] < 1000 {
			t.Error("hardly ever told:", e, told[e])
		}
	}
}

// P14.2: values of all lengths behind names of all lengths, and of all bytes that may be, are parsed as they were printed.
func TestPrintLengths(t *testing.T) {
	for name := 1; name <= 70; name++ {
		for value := range 160 {
			wantPrinted(t, of(headers(strings.Repeat("n", name), strings.Repeat(" ", value)), headers("Name", "q")))
		}
	}
	for n := range 256 {
		value := string([]byte{byte(n)})
		for _, value := range []string{value, value + "v", "v" + value, strings.Repeat("v", 68) + value + "v", strings.Repeat("v", 69) + value + "v", strings.Repeat(value, 300)} {
			e := wantPrinted(t, of(headers("X", value)))
			if (e == api.OK) != (n != 0 && n != 10 && n != 13) {
				t.Error(n, e)
			}
		}
	}
}

// P14.1, P14.2, P5: a text of just MaxBytes is printed and parsed; a longer one is printed all the same, for nothing else is told of it.
func TestPrintGreat(t *testing.T) {
	left := 1<<24 - len(version+"\r\n"+"\r\n")
	lines := (left + 73) / 74 // each but the last one has 72 bytes, and its end
	value := strings.Repeat("v", left-2*lines-(lines-1)-len("X: "))
	b := printed(t, value)
	if m, e := manifest.Parse(b); len(b) != 1<<24 || e != api.OK || !same(m, of(headers("X", value))) {
		t.Error(len(b), "bytes:", e)
	}
	b = printed(t, value+"v")
	if m, e := manifest.Parse(b); len(b) != 1<<24+1 || e != api.ErrLong || !same(m, api.Manifest{}) {
		t.Error(len(b), "bytes:", e)
	}
}

// printed is the text of a manifest with a value.
func printed(t *testing.T, value string) []byte {
	t.Helper()
	b, e := manifest.Print(of(headers("X", value)))
	if e != api.OK {
		t.Error(len(value), "bytes:", e)
	}
	return b
}

// P14.1: many sections and headers.
func TestPrintMany(t *testing.T) {
	m := of(nil)
	for i := range 100000 {
		m.Main = append(m.Main, api.Pair{Name: fmt.Sprint("n", i), Value: "v"})
		m.Parts = append(m.Parts, []api.Pair{{Name: "Name", Value: fmt.Sprint(i)}})
	}
	b, e := manifest.Print(m)
	if again, wrong := manifest.Parse(b); e != api.OK || wrong != api.OK || !same(again, m) {
		t.Error(e, wrong)
	}
	m.Main[99999].Name = "N5"
	wantUnprinted(t, m, api.ErrTwice)
}

// Rules: what is printed is the same each time, in memory of its own.
func TestPrintMemory(t *testing.T) {
	m := of(headers("X", "a", "Y", "b"), headers("Name", "q"))
	first, _ := manifest.Print(m)
	second, _ := manifest.Print(m)
	kept := string(second)
	clear(first[:cap(first)])
	if string(second) != kept || len(kept) == 0 {
		t.Error("shared")
	}
	if third, _ := manifest.Print(m); string(third) != kept {
		t.Error("another text")
	}
}
