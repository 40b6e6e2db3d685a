package ops_test

import (
	"math"
	"math/rand"
	"slices"
	"testing"

	"packsaddle/api"
	"packsaddle/ops"
)

// P18.1: each form's bytes, and the greatest and least numbers of each.
func TestPut(t *testing.T) {
	for _, c := range []struct {
		s    api.Step
		want []byte
	}{
		{api.Step{Op: 0}, []byte{0}}, {api.Step{Op: 177, At: 9, Var: 1000, Num: -7, Pool: -1, To: -1, Keys: []int{2, 1}, Targets: []int{0}}, []byte{177}},
		{api.Step{Op: 16, Num: -128}, []byte{16, 128}}, {api.Step{Op: 16, Num: 127}, []byte{16, 127}}, {api.Step{Op: 17, Num: -32768}, []byte{17, 128, 0}}, {api.Step{Op: 17, Num: 32767}, []byte{17, 127, 255}},
		{api.Step{Op: 18}, []byte{18, 0}}, {api.Step{Op: 18, Pool: 255}, []byte{18, 255}}, {api.Step{Op: 18, Pool: 256}, []byte{19, 1, 0}}, {api.Step{Op: 18, Pool: 300}, []byte{19, 1, 44}}, {api.Step{Op: 18, Pool: 65535}, []byte{19, 255, 255}},
		{api.Step{Op: 19, Pool: 255}, []byte{18, 255}}, {api.Step{Op: 19, Pool: 256}, []byte{19, 1, 0}},
		{api.Step{Op: 20}, []byte{20, 0, 0}}, {api.Step{Op: 20, Pool: 65535}, []byte{20, 255, 255}},
		{api.Step{Op: 21}, []byte{21, 0}}, {api.Step{Op: 169, Var: 255, Num: 1000}, []byte{169, 255}}, {api.Step{Op: 58, Var: 256}, []byte{196, 58, 1, 0}}, {api.Step{Op: 54, Var: 65535}, []byte{196, 54, 255, 255}},
		{api.Step{Op: 132, Var: 255, Num: -128}, []byte{132, 255, 128}}, {api.Step{Op: 132, Num: 127}, []byte{132, 0, 127}}, {api.Step{Op: 132, Num: 128}, []byte{196, 132, 0, 0, 0, 128}}, {api.Step{Op: 132, Num: -129}, []byte{196, 132, 0, 0, 255, 127}}, {api.Step{Op: 132, Var: 256, Num: -1}, []byte{196, 132, 1, 0, 255, 255}}, {api.Step{Op: 132, Var: 65535, Num: -32768}, []byte{196, 132, 255, 255, 128, 0}}, {api.Step{Op: 132, Num: 32767}, []byte{196, 132, 0, 0, 127, 255}},
		{api.Step{Op: 153, At: 5}, []byte{153, 0, 0}}, {api.Step{Op: 167, To: 32767}, []byte{167, 127, 255}}, {api.Step{Op: 199, To: 256}, []byte{199, 1, 0}}, {api.Step{Op: 200, To: math.MaxInt32}, []byte{200, 127, 255, 255, 255}}, {api.Step{Op: 201, To: 3, At: -9}, []byte{201, 0, 0, 0, 3}},
		{api.Step{Op: 178, Pool: 1, Var: -3}, []byte{178, 0, 1}}, {api.Step{Op: 193, Pool: 65535}, []byte{193, 255, 255}},
		{api.Step{Op: 185, Pool: 258, Var: 1}, []byte{185, 1, 2, 1, 0}}, {api.Step{Op: 185, Pool: 65535, Var: 255}, []byte{185, 255, 255, 255, 0}},
		{api.Step{Op: 188, Var: 4}, []byte{188, 4}}, {api.Step{Op: 188, Var: 11, Pool: -1}, []byte{188, 11}}, {api.Step{Op: 197, Var: 1}, []byte{197, 0, 0, 1}}, {api.Step{Op: 197, Pool: 65535, Var: 255}, []byte{197, 255, 255, 255}},
		{api.Step{Op: 170, To: 9, Keys: []int{7}, Targets: []int{0}}, []byte{170, 0, 0, 0, 0, 0, 0, 9, 0, 0, 0, 7, 0, 0, 0, 7, 0, 0, 0, 0}},
		{api.Step{Op: 170, To: 1 << 30, Keys: []int{-1, 0}, Targets: []int{1, 1 << 30}}, []byte{170, 0, 0, 0, 64, 0, 0, 0, 255, 255, 255, 255, 0, 0, 0, 0, 0, 0, 0, 1, 64, 0, 0, 0}},
		{api.Step{Op: 171}, []byte{171, 0, 0, 0, 0, 0, 0, 0, 0, 0, 0, 0}},
		{api.Step{Op: 171, To: 1 << 30, Keys: []int{math.MinInt32, math.MaxInt32}, Targets: []int{1 << 30, 2}}, []byte{171, 0, 0, 0, 64, 0, 0, 0, 0, 0, 0, 2, 128, 0, 0, 0, 64, 0, 0, 0, 127, 255, 255, 255, 0, 0, 0, 2}},
	} {
		got, e := wantStep(t, nil, c.s, 0)
		if e != api.OK || !slices.Equal(got, c.want) {
			t.Errorf("Put of %v: %v, error %d, want %v", c.s, got, e, c.want)
		}
	}
}

// P18.1: places are told from the end of what stands ahead, and noughts are put up to a place that 4 divides.
func TestPutPlace(t *testing.T) {
	for _, c := range []struct {
		ahead int
		s     api.Step
		want  []byte
	}{
		{10, api.Step{Op: 167, At: 3}, []byte{167, 255, 246}}, {32768, api.Step{Op: 153}, []byte{153, 128, 0}}, {5, api.Step{Op: 168, To: 5}, []byte{168, 0, 0}}, {5, api.Step{Op: 168, To: 32772}, []byte{168, 127, 255}},
		{10, api.Step{Op: 200, To: 9}, []byte{200, 255, 255, 255, 255}}, {1, api.Step{Op: 201, To: 1 << 31}, []byte{201, 127, 255, 255, 255}},
		{1, api.Step{Op: 171, To: 1}, []byte{171, 0, 0, 0, 0, 0, 0, 0, 0, 0, 0}}, {2, api.Step{Op: 171, To: 0}, []byte{171, 0, 255, 255, 255, 254, 0, 0, 0, 0}}, {3, api.Step{Op: 171, To: 4}, []byte{171, 0, 0, 0, 1, 0, 0, 0, 0}}, {4, api.Step{Op: 171, To: 4}, []byte{171, 0, 0, 0, 0, 0, 0, 0, 0, 0, 0, 0}},
		{7, api.Step{Op: 170, At: 2, To: 7, Keys: []int{1}, Targets: []int{6}}, []byte{170, 0, 0, 0, 0, 0, 0, 0, 1, 0, 0, 0, 1, 255, 255, 255, 255}},
	} {
		ahead := slices.Repeat([]byte{99}, c.ahead)
		got, e := wantStep(t, ahead, c.s, c.ahead)
		if want := slices.Concat(ahead, c.want); e != api.OK || !slices.Equal(got, want) {
			t.Errorf("Put of %v at %d: error %d, %v, want %v", c.s, c.ahead, e, got[min(c.ahead, len(got)):], c.want)
		}
	}
}

// P18.1: ErrKind, and ErrForm ahead of ErrRange.
func TestPutErrors(t *testing.T) {
	for _, c := range []struct {
		s api.Step
		e api.Errno
	}{
		{api.Step{Op: -1}, api.ErrKind}, {api.Step{Op: 186}, api.ErrKind}, {api.Step{Op: 196, Pool: -1}, api.ErrKind}, {api.Step{Op: 202}, api.ErrKind}, {api.Step{Op: 256}, api.ErrKind}, {api.Step{Op: math.MaxInt}, api.ErrKind}, {api.Step{Op: math.MinInt}, api.ErrKind},
		{api.Step{Op: 185}, api.ErrForm}, {api.Step{Op: 185, Var: -1}, api.ErrForm}, {api.Step{Op: 185, Var: 256}, api.ErrForm}, {api.Step{Op: 185, Pool: -1}, api.ErrForm}, {api.Step{Op: 185, Pool: -1, Var: 1}, api.ErrRange}, {api.Step{Op: 185, Pool: 65536, Var: 1}, api.ErrRange},
		{api.Step{Op: 188}, api.ErrForm}, {api.Step{Op: 188, Var: 3}, api.ErrForm}, {api.Step{Op: 188, Var: 12}, api.ErrForm}, {api.Step{Op: 188, Var: 256 + 4}, api.ErrForm}, {api.Step{Op: 188, Var: -1}, api.ErrForm},
		{api.Step{Op: 197}, api.ErrForm}, {api.Step{Op: 197, Var: 257}, api.ErrForm}, {api.Step{Op: 197, Pool: 65536}, api.ErrForm}, {api.Step{Op: 197, Pool: 65536, Var: 1}, api.ErrRange}, {api.Step{Op: 197, Pool: -1, Var: 1}, api.ErrRange},
		{api.Step{Op: 16, Num: 128}, api.ErrRange}, {api.Step{Op: 16, Num: -129}, api.ErrRange}, {api.Step{Op: 16, Num: math.MinInt}, api.ErrRange}, {api.Step{Op: 17, Num: 32768}, api.ErrRange}, {api.Step{Op: 17, Num: -32769}, api.ErrRange}, {api.Step{Op: 17, Num: 1 << 32}, api.ErrRange},
		{api.Step{Op: 18, Pool: -1}, api.ErrRange}, {api.Step{Op: 18, Pool: 65536}, api.ErrRange}, {api.Step{Op: 19, Pool: -1}, api.ErrRange}, {api.Step{Op: 19, Pool: 65536}, api.ErrRange}, {api.Step{Op: 18, Pool: math.MinInt}, api.ErrRange}, {api.Step{Op: 20, Pool: -1}, api.ErrRange}, {api.Step{Op: 20, Pool: 65536}, api.ErrRange}, {api.Step{Op: 192, Pool: math.MaxInt}, api.ErrRange}, {api.Step{Op: 178, Pool: -1}, api.ErrRange},
		{api.Step{Op: 25, Var: -1}, api.ErrRange}, {api.Step{Op: 25, Var: 65536}, api.ErrRange}, {api.Step{Op: 169, Var: math.MinInt}, api.ErrRange}, {api.Step{Op: 132, Var: -1}, api.ErrRange}, {api.Step{Op: 132, Var: -1, Num: 1000}, api.ErrRange}, {api.Step{Op: 132, Var: 65536}, api.ErrRange}, {api.Step{Op: 132, Num: 32768}, api.ErrRange}, {api.Step{Op: 132, Num: -32769}, api.ErrRange}, {api.Step{Op: 132, Num: math.MaxInt}, api.ErrRange},
		{api.Step{Op: 167, To: 32768}, api.ErrRange}, {api.Step{Op: 167, To: -1}, api.ErrRange}, {api.Step{Op: 198, To: math.MinInt}, api.ErrRange}, {api.Step{Op: 198, To: math.MaxInt}, api.ErrRange}, {api.Step{Op: 200, To: 1 << 31}, api.ErrRange}, {api.Step{Op: 200, To: -1}, api.ErrRange}, {api.Step{Op: 201, To: 1 << 40}, api.ErrRange}, {api.Step{Op: 201, To: math.MaxInt}, api.ErrRange}, {api.Step{Op: 201, To: math.MinInt}, api.ErrRange},
	} {
		for _, ahead := range [][]byte{nil, {1, 2}} {
			s := c.s
			if s.To > 0 && s.To < 1<<40 {
				s.To += len(ahead) // just as far from there
			}
			if got, e := wantStep(t, ahead, s, 0); e != c.e || got != nil {
				t.Errorf("Put of %v: %v, error %d, want %d", s, got, e, c.e)
			}
		}
	}
	if got, e := wantStep(t, make([]byte, 32769), api.Step{Op: 167}, 0); e != api.ErrRange || got != nil {
		t.Errorf("Put of one that goes 32769 back: error %d", e)
	}
}

// P18.1: what is wrong with a switch.
func TestPutSwitchErrors(t *testing.T) {
	const least, most = math.MinInt32, math.MaxInt32
	type row = []int
	for _, c := range []struct {
		op, to        int
		keys, targets row
		e             api.Errno
	}{
		{170, 0, nil, nil, api.ErrForm}, {170, 0, row{1}, nil, api.ErrForm}, {170, 0, nil, row{1}, api.ErrForm}, {170, 0, row{1, 2}, row{0}, api.ErrForm}, {170, 0, row{1}, row{0, 0}, api.ErrForm},
		{170, 0, row{1, 1}, row{0, 0}, api.ErrForm}, {170, 0, row{1, 3}, row{0, 0}, api.ErrForm}, {170, 0, row{2, 1}, row{0, 0}, api.ErrForm}, {170, 0, row{1, 2, 2}, row{0, 0, 0}, api.ErrForm}, {170, 0, row{1, 2, 4}, row{0, 0, 0}, api.ErrForm}, {170, 0, row{1, 3, 3}, row{0, 0, 0}, api.ErrForm},
		{170, 0, row{math.MaxInt, math.MinInt}, row{0, 0}, api.ErrForm}, {170, -1, row{1, 3}, row{0, 0}, api.ErrForm}, {170, -1, nil, nil, api.ErrForm}, {170, 0, row{most + 1, most + 3}, row{-1, -1}, api.ErrForm},
		{170, 0, row{most, most + 1}, row{0, 0}, api.ErrRange}, {170, 0, row{least - 1, least}, row{0, 0}, api.ErrRange}, {170, 0, row{most + 1}, row{0}, api.ErrRange}, {170, 0, row{math.MaxInt}, row{0}, api.ErrRange}, {170, 0, row{math.MinInt, math.MinInt + 1}, row{0, 0}, api.ErrRange},
		{170, 0, row{least, least + 1}, row{0, 0}, api.OK}, {170, 0, row{most - 1, most}, row{0, 0}, api.OK},
		{170, -1, row{1}, row{0}, api.ErrRange}, {170, 1<<30 + 1, row{1}, row{0}, api.ErrRange}, {170, 1 << 30, row{1}, row{1 << 30}, api.OK}, {170, 0, row{1}, row{-1}, api.ErrRange}, {170, 0, row{1}, row{1<<30 + 1}, api.ErrRange}, {170, 0, row{1, 2}, row{0, math.MaxInt}, api.ErrRange}, {170, math.MinInt, row{1}, row{0}, api.ErrRange},
		{171, 0, row{1}, nil, api.ErrForm}, {171, 0, nil, row{1}, api.ErrForm}, {171, 0, row{1, 2}, row{0}, api.ErrForm}, {171, -1, nil, row{1}, api.ErrForm},
		{171, 0, row{1, 1}, row{0, 0}, api.ErrForm}, {171, 0, row{2, 1}, row{0, 0}, api.ErrForm}, {171, 0, row{1, 5, 5}, row{0, 0, 0}, api.ErrForm}, {171, 0, row{math.MaxInt, math.MinInt}, row{0, 0}, api.ErrForm}, {171, 0, row{most + 2, most + 1}, row{0, 0}, api.ErrForm},
		{171, 0, row{1, 3}, row{0, 0}, api.OK}, {171, 0, row{math.MinInt, math.MaxInt}, row{0, 0}, api.ErrRange}, {171, 0, row{least - 1, 0}, row{0, 0}, api.ErrRange}, {171, 0, row{0, most + 1}, row{0, 0}, api.ErrRange}, {171, 0, row{least - 1, 0, most}, row{0, 0, 0}, api.ErrRange},
		{171, -1, nil, nil, api.ErrRange}, {171, 1<<30 + 1, nil, nil, api.ErrRange}, {171, 1 << 30, nil, nil, api.OK}, {171, 0, row{1}, row{-1}, api.ErrRange}, {171, 0, row{1}, row{1 << 30}, api.OK}, {171, 0, row{1}, row{1<<30 + 1}, api.ErrRange}, {171, math.MaxInt, nil, nil, api.ErrRange},
	} {
		s := api.Step{Op: c.op, To: c.to, Keys: c.keys, Targets: c.targets}
		for n := range 5 {
			if _, e := wantStep(t, make([]byte, n), s, n); e != c.e {
				t.Errorf("Put of %v: error %d, want %d", s, e, c.e)
			}
		}
	}
}

// P18.1: switches of many keys; no error is told of more than MaxCode, though such have no size.
func TestPutManyKeys(t *testing.T) {
	for _, many := range []int{1000, 65535, 65536, 65537, 100000} {
		s := api.Step{To: 3}
		for i := range many {
			s.Keys, s.Targets = append(s.Keys, i-500), append(s.Targets, i)
		}
		for _, op := range []int{170, 171} {
			s.Op = op
			if _, e := wantStep(t, []byte{1, 2, 3}, s, 1); e != api.OK {
				t.Errorf("%d keys of %d: error %d", many, op, e)
			}
		}
	}
}

// P18.1: each opcode, with each number at its edges, the others being such that may be.
func TestPutEdges(t *testing.T) {
	edges := []int{math.MinInt, -1<<40 - 1, -1 << 40, math.MinInt32 - 1, math.MinInt32, -65536, -32769, -32768, -257, -256, -129, -128, -1, 0, 1, 3, 4, 11, 12, 127, 128, 255, 256, 257, 260, 32767, 32768, 32770, 65535, 65536, 1 << 30, 1<<30 + 1, math.MaxInt32, math.MaxInt32 + 1, 1<<31 + 2, 1<<31 + 3, 1 << 32, 1 << 40, 1<<40 + 1, math.MaxInt}
	for op := -2; op < 260; op++ {
		good := api.Step{Op: op, Var: 4, Num: 1, Pool: 1, Keys: []int{5, 6}, Targets: []int{0, 0}}
		for _, n := range edges {
			for i, part := range []func(*api.Step) *int{
				func(s *api.Step) *int { return &s.At },
				func(s *api.Step) *int { return &s.Var },
				func(s *api.Step) *int { return &s.Num },
				func(s *api.Step) *int { return &s.Pool },
				func(s *api.Step) *int { return &s.To },
				func(s *api.Step) *int { return &s.Keys[0] },
				func(s *api.Step) *int { return &s.Keys[1] },
				func(s *api.Step) *int { return &s.Targets[0] },
				func(s *api.Step) *int { return &s.Targets[1] },
			} {
				s := good
				s.Keys, s.Targets = slices.Clone(s.Keys), slices.Clone(s.Targets)
				*part(&s) = n
				wantStep(t, make([]byte, i%4), s, n)
				if i == 1 {
					for _, m := range edges {
						s.Num = m
						wantStep(t, nil, s, m)
					}
				}
			}
		}
	}
}

// P18.1: what is answered is new memory, also where b has room behind it.
func TestPutMemory(t *testing.T) {
	room := make([]byte, 64)
	for _, s := range []api.Step{{Op: 0}, {Op: 16, Num: 9}, {Op: 200, To: 3}, {Op: 171, To: 7}, {Op: 16, Num: 999}} {
		first, e := ops.Put(room[:3], s)
		second, _ := ops.Put(room[:3], s)
		want, f := modelPut(make([]byte, 3), s)
		for i := range first {
			first[i] = 77
		}
		if e != f || !slices.Equal(second, want) || !slices.Equal(room, make([]byte, 64)) {
			t.Errorf("%v: %v, error %d; room %v", s, second, e, room)
		}
	}
}

// P18.2: what is read, and written again, each in its place, is read as it was, if no place has moved.
func TestAgain(t *testing.T) {
	for _, c := range []struct {
		b    []byte
		kept bool
	}{
		{whole(), true},
		{[]byte{196, 21, 0, 5, 19, 0, 5, 196, 132, 0, 1, 0, 1, 177}, false},
		{[]byte{0, 196, 21, 0, 5}, true}, // gets shorter, but nothing stands behind it
	} {
		if wantAgain(t, c.b) != c.kept {
			t.Errorf("%v: kept %v", c.b, !c.kept)
		}
	}
	r := rand.New(rand.NewSource(182))
	kept := 0
	for range 20000 {
		if wantAgain(t, program(r)) {
			kept++
		}
	}
	if kept < 10000 {
		t.Error(kept)
	}
}

// wantAgain tells whether no place has moved.
func wantAgain(t *testing.T, b []byte) bool {
	t.Helper()
	l, e := wantRead(t, b)
	if e != api.OK {
		t.Fatalf("%v: error %d", short(b), e)
	}
	var out []byte
	for _, s := range l {
		if s.At != len(out) {
			return false
		}
		if out, e = wantStep(t, out, s, s.At); e != api.OK {
			t.Fatalf("Put of %v: error %d", told(s), e)
		}
	}
	if again, e := ops.Read(out); e != api.OK || !sameSteps(again, l) {
		t.Fatalf("%v, written again: %v, error %d", short(l), short(again), e)
	}
	return true
}

// program is a row of instructions at random, which go to each other's places; a few of them stand longer than they need.
func program(r *rand.Rand) []byte {
	many := 1 + r.Intn(12)
	l := make([]api.Step, many)
	places, at := make([]int, many), 0
	for i := range l {
		l[i] = instruction(r)
		places[i] = at
		at += modelSize(l[i], at)
	}
	var out []byte
	for _, s := range l {
		s.To = places[r.Intn(many)]
		for i := range s.Targets {
			s.Targets[i] = places[r.Intn(many)]
		}
		out, _ = modelPut(out, s)
	}
	if r.Intn(4) == 0 {
		out = append(out, [][]byte{{19, 0, 3}, {196, 169, 0, 9}, {196, 132, 0, 9, 0, 9}, {19, 0, 3, 177}, {196, 21, 0, 9, 177}}[r.Intn(5)]...)
	}
	return out
}

// instruction has numbers at random, which may be written.
func instruction(r *rand.Rand) api.Step {
	letters := "-bscdvijwpfamtl"
	form := letters[r.Intn(len(letters))]
	s := api.Step{Op: r.Intn(202), Pool: r.Intn(65536) >> r.Intn(16), Var: r.Intn(65536) >> r.Intn(16), Num: (r.Intn(65536) - 32768) >> r.Intn(16)}
	for modelForms[s.Op] != form {
		s.Op = r.Intn(202)
	}
	switch form {
	case 'b':
		s.Num = r.Intn(256) - 128
	case 'f', 'm':
		s.Var = 1 + r.Intn(255)
	case 'a':
		s.Var = 4 + r.Intn(8)
	case 't', 'l':
		key := r.Intn(1<<32-1000) + math.MinInt32
		for range 1 + r.Intn(6) {
			s.Keys, s.Targets = append(s.Keys, key), append(s.Targets, 0)
			key++
			if form == 'l' {
				key += r.Intn(100)
			}
		}
	}
	return s
}
