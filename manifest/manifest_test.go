package manifest_test

import (
	"fmt"
	"slices"
	"strings"
	"testing"

	"packsaddle/api"
	"packsaddle/manifest"
)

func wantName(t *testing.T, s string, want bool) {
	t.Helper()
	if manifest.Name(s) != want {
		t.Errorf("%d bytes %.80q: %v", len(s), s, !want)
	}
}

// P14.1: names that may be, and names that may not.
func TestName(t *testing.T) {
	for _, s := range []string{"a", "Z", "0", "9", "Manifest-Version", "Name", "Class-Path", "X_Y", "x-", "x_", "0-", "9_", "SHA-256-Digest", "a--b__c", "A1-b2_C3"} {
		wantName(t, s, true)
	}
	for _, s := range []string{"", "-", "_", "-a", "_a", "-0", " ", " a", "a ", "a b", "a:", "a: ", ":", ":a", "a.b", "a/b", "a\n", "\na", "a\r", "a\x00", "\x00", "\ta", "a\t", "a\x7f", "a+b", "a=b",
		"é", "aé", "Ж", "日", "a日", "\u212a", "a\u212a", "ſ", "aſ", "\u0660", "a\u0660", "١", "ａ", "\xff", "a\xff", "\xc1", "a\xe9"} {
		wantName(t, s, false)
	}
}

// P14.1: each byte as a name's first, middle and last one.
func TestNameBytes(t *testing.T) {
	for n := range 256 {
		sign := string([]byte{byte(n)})
		letter := n >= 'a' && n <= 'z' || n >= 'A' && n <= 'Z' || n >= '0' && n <= '9'
		wantName(t, sign, letter)
		wantName(t, sign+"x", letter)
		wantName(t, sign+strings.Repeat("-", 69), letter)
		letter = letter || n == '-' || n == '_'
		wantName(t, "x"+sign, letter)
		wantName(t, "x"+sign+"x", letter)
		wantName(t, strings.Repeat("x", 69)+sign, letter)
	}
}

// P14.1: a name has 1 to 70 bytes.
func TestNameLength(t *testing.T) {
	for _, sign := range []string{"a", "Z", "7"} {
		for n := range 300 {
			wantName(t, strings.Repeat(sign, n), n >= 1 && n <= 70)
			wantName(t, sign+strings.Repeat("_-", n), 1+2*n <= 70)
		}
	}
	for _, n := range []int{65535, 65536, 65537, 65606, 1 << 20} {
		wantName(t, strings.Repeat("x", n), false)
	}
}

func wantFolded(t *testing.T, s string, want ...string) {
	t.Helper()
	if got := manifest.Fold(s); !slices.Equal(got, want) {
		t.Errorf("%q folded: %q, want %q", s, got, want)
	}
}

// P14.1: a line of MaxLine bytes isn't folded, one of a byte more is; each further line has 71 bytes behind a blank.
func TestFold(t *testing.T) {
	x := func(n int) string { return strings.Repeat("x", n) }
	wantFolded(t, "", "")
	wantFolded(t, "a", "a")
	wantFolded(t, " ", " ")
	wantFolded(t, x(71), x(71))
	wantFolded(t, x(72), x(72))
	wantFolded(t, x(73), x(72), " x")
	wantFolded(t, x(72+70), x(72), " "+x(70))
	wantFolded(t, x(72+71), x(72), " "+x(71))
	wantFolded(t, x(72+72), x(72), " "+x(71), " x")
	wantFolded(t, x(72+71+71), x(72), " "+x(71), " "+x(71))
	wantFolded(t, x(72+71+72), x(72), " "+x(71), " "+x(71), " x")
	wantFolded(t, strings.Repeat(" ", 75), strings.Repeat(" ", 72), "    ")
	wantFolded(t, x(71)+"é", x(71)+"\xc3", " \xa9")
	wantFolded(t, "a\r\nb\n", "a\r\nb\n")
}

// P14.1: what is folded is the same, put together; all lines but the last one are full.
func TestFoldLengths(t *testing.T) {
	for n := range 1000 {
		s := []byte{}
		for i := range n {
			s = append(s, byte(i*i>>3+i))
		}
		whole := ""
		got := manifest.Fold(string(s))
		for i, line := range got {
			if len(line) > 72 || i < len(got)-1 && len(line) < 72 || i > 0 && (line[0] != ' ' || len(line) < 2) {
				t.Errorf("%d bytes, line %d: %q", n, i, line)
			}
			whole += line[min(i, 1):]
		}
		if whole != string(s) {
			t.Errorf("%d bytes: %q", n, got)
		}
	}
	if got := manifest.Fold(strings.Repeat("y", 1<<24)); len(got) != 1+(1<<24-72+70)/71 {
		t.Error("1 << 24 bytes:", len(got))
	}
}

func wantGot(t *testing.T, l []api.Pair, name, want string, there bool) {
	t.Helper()
	kept := slices.Clone(l)
	if got, ok := manifest.Get(l, name); got != want || ok != there {
		t.Errorf("%q of %q: %q, %v", name, l, got, ok)
	}
	if !slices.Equal(l, kept) {
		t.Errorf("%q: changed", l)
	}
}

// P14.1: the value of the first header of a name, letters being small or great; none, if there is no such header.
func TestGet(t *testing.T) {
	l := headers("Manifest-Version", "1.0", "Class-Path", "", "X", "first", "x", "second", "X-1_y", "z")
	for name, want := range map[string]string{"Manifest-Version": "1.0", "MANIFEST-VERSION": "1.0", "manifest-version": "1.0", "mANIFEST-vERSION": "1.0", "Class-Path": "", "class-path": "", "X": "first", "x": "first", "x-1_Y": "z"} {
		wantGot(t, l, name, want, true)
	}
	for _, name := range []string{"", "Manifest", "Manifest-Version ", " Manifest-Version", "Manifest-Version:", "Manifest_Version", "anifest-Version", "Class-Path\x00", "Y", "1.0", "first", "x-1-y", "x\r1_y", "X-1\x7fy", "X-1?y"} {
		wantGot(t, l, name, "", false)
		wantGot(t, nil, name, "", false)
		wantGot(t, []api.Pair{}, name, "", false)
	}
}

// P14.1: no other bytes than letters are the same, small or great; what isn't a header's name is found all the same, if it stands there.
func TestGetBytes(t *testing.T) {
	for a := range 256 {
		for b := range 256 {
			x, y := string([]byte{'a', byte(a)}), string([]byte{'A', byte(b)})
			there := a == b || a^b == 32 && (a|32 >= 'a' && a|32 <= 'z')
			want := ""
			if there {
				want = "v"
			}
			wantGot(t, headers("b", "w", x, "v"), y, want, there)
		}
	}
	wantGot(t, headers("", "nothing", "a", "b"), "", "nothing", true)
	wantGot(t, headers("k", "v", "s", "w"), "\u212a", "", false)
	wantGot(t, headers("\u212a", "v", "ſ", "w"), "S", "", false)
	wantGot(t, headers("É", "v"), "é", "", false)
	wantGot(t, headers("\xff", "v", "\xfe", "w", "\ufffd", "x"), "\xfe", "w", true)
	long := strings.Repeat("Long", 1<<18)
	wantGot(t, headers(long+"x", "v", long, "w"), strings.ToUpper(long), "w", true)
	var many []api.Pair
	for i := range 100000 {
		many = append(many, api.Pair{Name: fmt.Sprint("n", i), Value: fmt.Sprint(i)})
	}
	wantGot(t, many, "N99999", "99999", true)
}
