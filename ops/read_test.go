package ops_test

import (
	"math"
	"math/rand"
	"slices"
	"testing"

	"packsaddle/api"
	"packsaddle/ops"
)

// whole is a method's bytes with all forms in it, one instruction behind the other.
func whole() []byte {
	return slices.Concat(
		[]byte{0, 16, 255, 17, 128, 1, 18, 200, 19, 1, 44, 20, 255, 254, 21, 9, 196, 25, 1, 0, 132, 7, 128, 196, 132, 255, 255, 127, 255}, // up to 29
		[]byte{153, 255, 227, 198, 0, 3, 200, 255, 255, 255, 221, 201, 0, 0, 0, 5},                                                        // up to 45
		[]byte{178, 1, 2, 187, 3, 4, 185, 0, 9, 255, 0, 188, 11, 197, 0, 1, 255},                                                          // up to 62
		[]byte{170, 0, 255, 255, 255, 194, 255, 255, 255, 255, 0, 0, 0, 1, 0, 0, 0, 0, 255, 255, 255, 195, 0, 0, 0, 26},                   // up to 88
		[]byte{171, 0, 0, 0, 255, 255, 255, 168, 0, 0, 0, 2, 128, 0, 0, 0, 0, 0, 0, 28, 127, 255, 255, 255, 255, 255, 255, 230},           // up to 116
		[]byte{177},
	)
}

// P18.1: each form's numbers.
func TestReadForms(t *testing.T) {
	l, e := ops.Read(whole())
	want := []api.Step{
		{At: 0, Op: 0}, {At: 1, Op: 16, Num: -1}, {At: 3, Op: 17, Num: -32767}, {At: 6, Op: 18, Pool: 200}, {At: 8, Op: 18, Pool: 300}, {At: 11, Op: 20, Pool: 65534},
		{At: 14, Op: 21, Var: 9}, {At: 16, Op: 25, Var: 256}, {At: 20, Op: 132, Var: 7, Num: -128}, {At: 23, Op: 132, Var: 65535, Num: 32767},
		{At: 29, Op: 153, To: 0}, {At: 32, Op: 198, To: 35}, {At: 35, Op: 200, To: 0}, {At: 40, Op: 201, To: 45},
		{At: 45, Op: 178, Pool: 258}, {At: 48, Op: 187, Pool: 772}, {At: 51, Op: 185, Pool: 9, Var: 255}, {At: 56, Op: 188, Var: 11}, {At: 58, Op: 197, Pool: 1, Var: 255},
		{At: 62, Op: 170, To: 0, Keys: []int{-1, 0, 1}, Targets: []int{62, 1, 88}},
		{At: 88, Op: 171, To: 0, Keys: []int{math.MinInt32, math.MaxInt32}, Targets: []int{116, 62}},
		{At: 116, Op: 177},
	}
	if e != api.OK || !sameSteps(l, want) {
		t.Fatal(l, e)
	}
	wantRead(t, whole())
}

// P18.1: each opcode by itself, and behind 196, in front of many and of few bytes.
func TestReadEachOpcode(t *testing.T) {
	for op := range 256 {
		for n := range 30 {
			for _, fill := range []byte{0, 1, 4, 12, 255} {
				behind := slices.Repeat([]byte{fill}, n)
				wantRead(t, slices.Concat([]byte{byte(op)}, behind))
				wantRead(t, slices.Concat([]byte{196, byte(op)}, behind))
				wantRead(t, slices.Concat([]byte{0, byte(op)}, behind))
			}
		}
	}
}

// P18.1: the errors that the bytes of one instruction come to.
func TestReadErrors(t *testing.T) {
	for _, c := range []struct {
		b []byte
		e api.Errno
	}{
		{nil, api.ErrArg}, {[]byte{}, api.ErrArg},
		{[]byte{16}, api.ErrEnd}, {[]byte{17, 0}, api.ErrEnd}, {[]byte{18}, api.ErrEnd}, {[]byte{19, 0}, api.ErrEnd}, {[]byte{20, 0}, api.ErrEnd}, {[]byte{21}, api.ErrEnd}, {[]byte{132, 1}, api.ErrEnd}, {[]byte{167, 0}, api.ErrEnd}, {[]byte{200, 0, 0, 0}, api.ErrEnd}, {[]byte{178, 0}, api.ErrEnd}, {[]byte{188}, api.ErrEnd}, {[]byte{197, 0, 0}, api.ErrEnd},
		{[]byte{196}, api.ErrEnd}, {[]byte{196, 21, 0}, api.ErrEnd}, {[]byte{196, 132, 0, 0, 0}, api.ErrEnd}, {[]byte{0, 196}, api.ErrEnd},
		{[]byte{186}, api.ErrKind}, {[]byte{202}, api.ErrKind}, {[]byte{255}, api.ErrKind}, {[]byte{0, 202}, api.ErrKind}, {[]byte{177, 186, 0, 0}, api.ErrKind},
		{[]byte{196, 0}, api.ErrKind}, {[]byte{196, 18}, api.ErrKind}, {[]byte{196, 19, 0, 0, 0, 0}, api.ErrKind}, {[]byte{196, 196, 21, 0, 0}, api.ErrKind}, {[]byte{196, 186}, api.ErrKind}, {[]byte{196, 255}, api.ErrKind}, {[]byte{196, 16, 0, 0}, api.ErrKind}, {[]byte{196, 170}, api.ErrKind}, {[]byte{196, 26, 0, 0}, api.ErrKind},
		{[]byte{185}, api.ErrEnd}, {[]byte{185, 0, 1}, api.ErrEnd}, {[]byte{185, 0, 1, 0}, api.ErrForm}, {[]byte{185, 0, 1, 0, 0}, api.ErrForm}, {[]byte{185, 0, 1, 1}, api.ErrEnd}, {[]byte{185, 0, 1, 1, 1}, api.ErrForm}, {[]byte{185, 0, 1, 1, 0}, api.OK},
		{[]byte{188, 3}, api.ErrForm}, {[]byte{188, 4}, api.OK}, {[]byte{188, 11}, api.OK}, {[]byte{188, 12}, api.ErrForm}, {[]byte{188, 0}, api.ErrForm}, {[]byte{188, 255}, api.ErrForm},
		{[]byte{197, 0, 1, 0}, api.ErrForm}, {[]byte{197, 0, 1, 1}, api.OK}, {[]byte{197, 0, 1, 255}, api.OK},
	} {
		if _, e := wantRead(t, c.b); e != c.e {
			t.Errorf("Read of %v: error %d, want %d", c.b, e, c.e)
		}
	}
}

// P18.1: a switch's errors, in the order in which its bytes come.
func TestReadSwitchErrors(t *testing.T) {
	for _, c := range []struct {
		b []byte
		e api.Errno
	}{
		{[]byte{170}, api.ErrEnd}, {[]byte{170, 0, 0}, api.ErrEnd}, {[]byte{170, 1}, api.ErrForm}, {[]byte{170, 0, 1}, api.ErrForm}, {[]byte{171, 0, 0, 255}, api.ErrForm}, {[]byte{0, 171, 1}, api.ErrForm}, {[]byte{0, 0, 0, 171}, api.ErrEnd},
		{[]byte{170, 0, 0, 0, 0, 0, 0}, api.ErrEnd},
		{[]byte{170, 0, 0, 0, 0, 0, 0, 0, 0, 0, 0, 5, 0, 0, 0, 4}, api.ErrForm}, // the last key is less
		{[]byte{170, 0, 0, 0, 0, 0, 0, 0, 0, 0, 0, 5, 0, 0, 0}, api.ErrEnd},     // there is no last key
		{[]byte{170, 0, 0, 0, 0, 0, 0, 0, 0, 0, 0, 0, 255, 255, 255, 255}, api.ErrForm},
		{[]byte{170, 0, 0, 0, 0, 0, 0, 0, 255, 255, 255, 255, 0, 0, 0, 0, 0, 0, 0, 0, 0, 0, 0, 0}, api.OK},
		{[]byte{170, 0, 0, 0, 0, 0, 0, 0, 255, 255, 255, 255, 0, 0, 0, 0, 0, 0, 0, 0, 0, 0, 0}, api.ErrEnd},
		{[]byte{170, 0, 0, 0, 0, 0, 0, 0, 128, 0, 0, 0, 127, 255, 255, 255, 0, 0, 0, 0}, api.ErrEnd}, // 2^32 keys
		{[]byte{170, 0, 0, 0, 0, 0, 0, 0, 127, 255, 255, 255, 127, 255, 255, 255, 0, 0, 0, 0}, api.OK},
		{[]byte{170, 0, 0, 0, 0, 0, 0, 0, 128, 0, 0, 0, 128, 0, 0, 0, 0, 0, 0, 0}, api.OK},
		{[]byte{171, 0, 0, 0, 0, 0, 0, 0, 0, 0, 0, 0}, api.OK},
		{[]byte{171, 0, 0, 0, 0, 0, 0, 0, 255, 255, 255, 255}, api.ErrForm},
		{[]byte{171, 0, 0, 0, 0, 0, 0, 0, 128, 0, 0, 0, 0}, api.ErrForm},
		{[]byte{171, 0, 0, 0, 0, 0, 0, 0, 127, 255, 255, 255, 0, 0, 0, 1, 0, 0, 0, 0}, api.ErrEnd}, // 2^31 - 1 keys
		{[]byte{171, 0, 0, 0, 0, 0, 0, 0, 0, 0, 0, 2, 0, 0, 0, 1, 0, 0, 0, 0, 0, 0, 0, 1}, api.ErrForm},
		{[]byte{171, 0, 0, 0, 0, 0, 0, 0, 0, 0, 0, 2, 0, 0, 0, 1, 0, 0, 0, 0, 0, 0, 0, 0}, api.ErrForm},
		{[]byte{171, 0, 0, 0, 0, 0, 0, 0, 0, 0, 0, 2, 0, 0, 0, 1, 0, 0, 0, 0, 255, 255, 255, 255}, api.ErrForm}, // keys have signs
		{[]byte{171, 0, 0, 0, 0, 0, 0, 0, 0, 0, 0, 2, 255, 255, 255, 255, 0, 0, 0, 0, 0, 0, 0, 0, 0, 0, 0, 0}, api.OK},
		{[]byte{171, 0, 0, 0, 0, 0, 0, 0, 0, 0, 0, 2, 0, 0, 0, 1, 0, 0, 0, 0, 0, 0, 0, 2}, api.ErrEnd},
		{[]byte{171, 0, 0, 0, 0, 0, 0, 0, 0, 0, 0, 1, 0, 0, 0, 1, 0, 0, 0}, api.ErrEnd},
	} {
		if _, e := wantRead(t, c.b); e != c.e {
			t.Errorf("Read of %v: error %d, want %d", c.b, e, c.e)
		}
	}
}

// P18.1: instructions' places alone may be gone to, and that is asked last of all.
func TestReadPlaces(t *testing.T) {
	for _, c := range []struct {
		b []byte
		e api.Errno
	}{
		{[]byte{167, 0, 0}, api.OK}, {[]byte{167, 0, 1}, api.ErrPlace}, {[]byte{167, 0, 3}, api.ErrPlace}, {[]byte{167, 0, 3, 0}, api.OK}, {[]byte{167, 255, 255}, api.ErrPlace}, {[]byte{167, 128, 0}, api.ErrPlace}, {[]byte{167, 127, 255}, api.ErrPlace},
		{[]byte{0, 153, 255, 255}, api.OK}, {[]byte{0, 153, 255, 254}, api.ErrPlace},
		{[]byte{16, 0, 198, 255, 255}, api.ErrPlace}, {[]byte{16, 0, 199, 255, 254}, api.OK},
		{[]byte{196, 21, 0, 0, 168, 255, 252}, api.OK}, {[]byte{196, 21, 0, 0, 168, 255, 253}, api.ErrPlace}, // the place is that of 196
		{[]byte{200, 0, 0, 0, 5, 177}, api.OK}, {[]byte{200, 0, 0, 0, 6, 177}, api.ErrPlace}, {[]byte{201, 128, 0, 0, 0}, api.ErrPlace}, {[]byte{201, 127, 255, 255, 255}, api.ErrPlace},
		{[]byte{170, 0, 0, 0, 0, 0, 0, 1, 0, 0, 0, 0, 0, 0, 0, 0, 0, 0, 0, 0}, api.ErrPlace}, {[]byte{170, 0, 0, 0, 0, 0, 0, 0, 0, 0, 0, 0, 0, 0, 0, 1, 0, 0, 0, 0, 0, 0, 0, 1}, api.ErrPlace},
		{[]byte{171, 0, 0, 0, 0, 0, 0, 12, 0, 0, 0, 0}, api.ErrPlace}, {[]byte{171, 0, 0, 0, 0, 0, 0, 12, 0, 0, 0, 0, 177}, api.OK}, {[]byte{171, 0, 0, 0, 0, 0, 0, 0, 0, 0, 0, 1, 0, 0, 0, 0, 0, 0, 0, 20}, api.ErrPlace},
		{[]byte{167, 0, 1, 202}, api.ErrKind}, {[]byte{167, 0, 1, 16}, api.ErrEnd}, {[]byte{167, 0, 1, 188, 0}, api.ErrForm}, {[]byte{167, 0, 3}, api.ErrPlace},
	} {
		if _, e := wantRead(t, c.b); e != c.e {
			t.Errorf("Read of %v: error %d, want %d", c.b, e, c.e)
		}
	}
}

// P18.1: fewer than MaxCode bytes, and that is asked ahead of what they are.
func TestReadLong(t *testing.T) {
	for _, op := range []byte{0, 202, 16, 170} {
		for _, c := range []struct {
			many int
			long bool
		}{{65534, false}, {65535, false}, {65536, true}, {65537, true}, {1 << 20, true}} {
			l, e := wantRead(t, slices.Repeat([]byte{op}, c.many))
			if (e == api.ErrLong) != c.long || op == 0 && !c.long && len(l) != c.many {
				t.Errorf("%d bytes %d: %d instructions, error %d", c.many, op, len(l), e)
			}
		}
	}
	wantRead(t, append(slices.Repeat([]byte{167, 0, 0}, 21845), 0)[:65535])
	wantRead(t, slices.Concat([]byte{170, 0, 0, 0, 0, 0, 0, 0, 0, 0, 0, 0, 0, 0, 0x3f, 0xfa}, make([]byte, 4*0x3ffb), []byte{0, 0, 0}))
}

// P18.1: all rows of up to two bytes, of three that begin with an opcode, and each cut and changed byte of all forms.
func TestReadEveryByte(t *testing.T) {
	for a := range 256 {
		wantRead(t, []byte{byte(a)})
		for b := range 256 {
			wantRead(t, []byte{byte(a), byte(b)})
			for _, c := range []byte{0, 1, 2, 3, 4, 16, 18, 21, 127, 128, 132, 167, 170, 171, 185, 186, 188, 196, 253, 254, 255} {
				wantRead(t, []byte{byte(a), byte(b), c})
			}
		}
	}
	b := whole()
	for i := range b {
		wantRead(t, b[:i])
		wantRead(t, b[i:])
		wantRead(t, slices.Delete(slices.Clone(b), i, i+1))
		for x := range 256 {
			turned := slices.Clone(b)
			turned[i] = byte(x)
			wantRead(t, turned)
			wantRead(t, slices.Insert(slices.Clone(b), i, byte(x)))
		}
	}
}

// P18.1: rows of bytes put together at random, most of them such that begin an instruction, or end one.
func TestReadRandom(t *testing.T) {
	r := rand.New(rand.NewSource(18))
	edges := []byte{0, 0, 0, 0, 0, 1, 2, 3, 4, 5, 11, 12, 127, 128, 252, 253, 254, 255, 16, 17, 18, 19, 20, 21, 58, 132, 153, 167, 169, 170, 171, 177, 178, 185, 186, 188, 196, 197, 198, 200, 201, 202}
	right := 0
	for range 300000 {
		b := make([]byte, 1+r.Intn(28))
		for i := range b {
			b[i] = edges[r.Intn(len(edges))]
		}
		if r.Intn(2) == 0 {
			copy(b[r.Intn(len(b)):], []byte{[]byte{170, 171}[r.Intn(2)], 0, 0, 0, 0, 0, 0, 0, 0, 0, 0}[:1+r.Intn(11)])
		}
		if _, e := wantRead(t, b); e == api.OK {
			right++
		}
	}
	if right < 10000 {
		t.Error(right)
	}
}

// P18.1: what is answered shares no memory, not even keys with targets, or one instruction's with another's.
func TestReadMemory(t *testing.T) {
	one := []byte{171, 0, 0, 0, 0, 0, 0, 0, 0, 0, 0, 1, 0, 0, 0, 0, 0, 0, 0, 0}
	two := []byte{170, 0, 0, 0, 0, 0, 0, 0, 0, 0, 0, 1, 0, 0, 0, 1, 0, 0, 0, 0}
	b := slices.Concat(one, two, one)
	l, e := ops.Read(b)
	want, _ := modelRead(b)
	if e != api.OK || len(l) != 3 {
		t.Fatal(l, e)
	}
	for i := range b {
		b[i] = 255
	}
	for i, s := range l {
		if !sameStep(s, want[i]) {
			t.Errorf("%v, want %v", s, want[i])
		}
		for _, row := range [][]int{s.Keys, s.Targets} {
			row = row[:cap(row)]
			for j := range row {
				row[j] = -7
			}
		}
		want[i].Keys, want[i].Targets = []int{-7}, []int{-7}
		if !sameSteps(l, want) {
			t.Errorf("%v, want %v", l, want)
		}
	}
}
