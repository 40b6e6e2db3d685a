package runs_test

import (
	"math"
	"math/rand"
	"slices"
	"testing"

	"packsaddle/api"
	"packsaddle/runs"
)

// length is a run that stands for one length.
func length(n int) runs.Run { return runs.Run{Sign: n} }

// times is a length, so many times.
func times(n, count int) []int { return slices.Repeat([]int{n}, count) }

// bitsOf is how many bits a sign adds, as the chapters tell it.
func bitsOf(sign int) int { return map[int]int{16: 2, 17: 3, 18: 7}[sign] }

// told is what runs stand for, by the chapters' words; they must be right.
func told(l []runs.Run) []int {
	out := []int{}
	for _, r := range l {
		switch r.Sign {
		case 16:
			out = append(out, times(out[len(out)-1], 3+r.More)...)
		case 17:
			out = append(out, times(0, 3+r.More)...)
		case 18:
			out = append(out, times(0, 11+r.More)...)
		default:
			out = append(out, r.Sign)
		}
	}
	return out
}

func wantLengths(t *testing.T, what string, l []runs.Run, want []int) {
	t.Helper()
	if got, e := runs.Expand(l); !slices.Equal(got, want) || e != api.OK {
		t.Errorf("%s: %v, %d; want %v", what, got, e, want)
	}
}

func wantError(t *testing.T, what string, l []runs.Run, want api.Errno) {
	t.Helper()
	if got, e := runs.Expand(l); len(got) != 0 || e != want {
		t.Errorf("%s: %v, %d; want none, %d", what, got, e, want)
	}
}

func wantNoRuns(t *testing.T, what string, l []int, want api.Errno) {
	t.Helper()
	if got, e := runs.Of(l); len(got) != 0 || e != want {
		t.Errorf("%s: %v, %d; want none, %d", what, got, e, want)
	}
}

// wantTold holds that lengths are told in right runs, no more of them than lengths, the same each time, and told back.
func wantTold(t *testing.T, what string, l []int) []runs.Run {
	t.Helper()
	kept := slices.Clone(l)
	got, e := runs.Of(l)
	if e != api.OK {
		t.Fatalf("%s: %d", what, e)
	}
	for _, r := range got {
		if !runs.Right(r) || r.More < 0 || r.More >= 1<<bitsOf(r.Sign) {
			t.Fatalf("%s: no run: %v", what, r)
		}
	}
	if !slices.Equal(l, kept) {
		t.Errorf("%s: the lengths changed", what)
	}
	if len(got) > len(l) {
		t.Errorf("%s: %d runs of %d lengths", what, len(got), len(l))
	}
	if !slices.Equal(told(got), kept) {
		t.Errorf("%s: %v stand for %v, not for %v", what, got, told(got), kept)
	}
	wantLengths(t, what, got, kept)
	if other, _ := runs.Of(append(make([]int, 0, 2*len(l)+9), l...)); !slices.Equal(other, got) {
		t.Errorf("%s: the same lengths have other runs", what)
	}
	return got
}

// P8.1: how many bits are added, of every sign, and of what is none.
func TestBits(t *testing.T) {
	for sign := -300; sign <= 300; sign++ {
		if got := runs.Bits(sign); got != bitsOf(sign) {
			t.Error(sign, got)
		}
	}
	for _, sign := range []int{math.MinInt, math.MinInt32, 1<<8 + 16, 1<<16 + 17, 1<<32 + 16, 1<<32 + 18, math.MaxInt} {
		if got := runs.Bits(sign); got != 0 {
			t.Error(sign, got)
		}
	}
}

// P8.1: each sign, and just beyond, with what is added at and beyond its bounds.
func TestRight(t *testing.T) {
	signs := []int{math.MinInt, -16, -2, 32, 100, 1<<32 + 16, math.MaxInt}
	for sign := -1; sign <= 20; sign++ {
		signs = append(signs, sign)
	}
	mores := []int{math.MinInt, math.MinInt32, 256, 1 << 31, 1 << 32, math.MaxInt}
	for more := -3; more <= 140; more++ {
		mores = append(mores, more)
	}
	for _, sign := range signs {
		for _, more := range mores {
			want := sign >= 0 && sign <= 18 && more >= 0 && more < 1<<bitsOf(sign)
			if got := runs.Right(runs.Run{Sign: sign, More: more}); got != want {
				t.Error(sign, more, got)
			}
		}
	}
}

// P8.1: the chapter's example, and nothing at all.
func TestExample(t *testing.T) {
	wantLengths(t, "17 with 1 more", []runs.Run{{Sign: 17, More: 1}}, []int{0, 0, 0, 0})
	wantLengths(t, "nil", nil, nil)
	wantLengths(t, "empty", []runs.Run{}, nil)
}

// P8.1: runs of each sign, with all that may be added.
func TestExpand(t *testing.T) {
	for n := range 16 {
		wantLengths(t, "a length", []runs.Run{length(n)}, []int{n})
		for more := range 4 {
			again := runs.Run{Sign: 16, More: more}
			wantLengths(t, "again", []runs.Run{length(n), again}, times(n, 4+more))
			wantLengths(t, "again, of two", []runs.Run{length(15 - n), length(n), again, length(7)}, slices.Concat([]int{15 - n}, times(n, 4+more), []int{7}))
			wantLengths(t, "again and again", []runs.Run{length(n), again, again}, times(n, 7+2*more))
		}
	}
	for more := range 8 {
		wantLengths(t, "few noughts", []runs.Run{length(3), {Sign: 17, More: more}, length(4)}, slices.Concat([]int{3}, times(0, 3+more), []int{4}))
	}
	for more := range 128 {
		wantLengths(t, "many noughts", []runs.Run{length(3), {Sign: 18, More: more}, length(4)}, slices.Concat([]int{3}, times(0, 11+more), []int{4}))
	}
}

// P8.1: a 16 tells the last length, also if that is a 0 of a 17 or 18; first of all there is none.
func TestExpandAgain(t *testing.T) {
	for more := range 4 {
		again := runs.Run{Sign: 16, More: more}
		wantError(t, "first of all", []runs.Run{again}, api.ErrForm)
		wantError(t, "first of all, more behind", []runs.Run{again, length(5), again}, api.ErrForm)
		for _, sign := range []int{17, 18} {
			for _, noughts := range []int{0, 1, 7} {
				least := map[int]int{17: 3, 18: 11}[sign]
				l := []runs.Run{length(9), {Sign: sign, More: noughts}, again}
				wantLengths(t, "behind noughts", l, append([]int{9}, times(0, least+noughts+3+more)...))
				wantLengths(t, "behind noughts that are first", l[1:], times(0, least+noughts+3+more))
			}
		}
	}
}

// P8.1: one is no run, in each way, ahead of and behind others.
func TestExpandRange(t *testing.T) {
	for _, r := range []runs.Run{
		{Sign: -1}, {Sign: 19}, {Sign: math.MinInt}, {Sign: math.MaxInt}, {Sign: 1<<32 + 1},
		{Sign: 0, More: 1}, {Sign: 5, More: -1}, {Sign: 15, More: 1}, {Sign: 15, More: math.MaxInt},
		{Sign: 16, More: -1}, {Sign: 16, More: 4}, {Sign: 17, More: -1}, {Sign: 17, More: 8}, {Sign: 18, More: -1}, {Sign: 18, More: 128},
		{Sign: 16, More: math.MinInt}, {Sign: 17, More: math.MaxInt}, {Sign: 18, More: math.MaxInt}, {Sign: 18, More: math.MinInt},
	} {
		wantError(t, "alone", []runs.Run{r}, api.ErrRange)
		wantError(t, "behind", []runs.Run{length(1), {Sign: 18}, r}, api.ErrRange)
		wantError(t, "ahead", []runs.Run{r, length(1)}, api.ErrRange)
	}
}

// rowOf are runs that stand for so many lengths, the last one a single one.
func rowOf(count int) []runs.Run {
	l := []runs.Run{}
	for i := range count {
		l = append(l, length(i%16))
	}
	return l
}

// P8.1: as many lengths as may be, and one more, by each sign.
func TestExpandMany(t *testing.T) {
	wantLengths(t, "320 one by one", rowOf(320), told(rowOf(320)))
	wantError(t, "321 one by one", rowOf(321), api.ErrMany)
	wantError(t, "many more", rowOf(100000), api.ErrMany)
	for _, r := range []runs.Run{{Sign: 0}, {Sign: 15}, {Sign: 16}, {Sign: 16, More: 3}, {Sign: 17}, {Sign: 17, More: 7}, {Sign: 18}, {Sign: 18, More: 127}} {
		size := len(told([]runs.Run{length(1), r})) - 1
		for room := max(size-3, 0); room <= size+3; room++ {
			l := append(rowOf(320-room), r)
			if size <= room {
				wantLengths(t, "just room", l, told(l))
			} else {
				wantError(t, "too little room", l, api.ErrMany)
			}
		}
	}
	full := []runs.Run{{Sign: 18, More: 127}, {Sign: 18, More: 127}, {Sign: 18, More: 33}}
	wantLengths(t, "noughts", full, times(0, 320))
	wantError(t, "one more nought", append(slices.Clone(full), length(0)), api.ErrMany)
}

// P8.1: of two errors the one that comes first.
func TestExpandFirstError(t *testing.T) {
	none, again, many := runs.Run{Sign: 19}, runs.Run{Sign: 16}, slices.Repeat([]runs.Run{{Sign: 18, More: 127}}, 3)
	for _, x := range []struct {
		what string
		l    []runs.Run
		want api.Errno
	}{
		{"none, then a 16", []runs.Run{none, again}, api.ErrRange},
		{"a 16, then none", []runs.Run{again, none}, api.ErrForm},
		{"a 16 that is none", []runs.Run{{Sign: 16, More: 4}}, api.ErrRange},
		{"a 16, then too many", append([]runs.Run{again}, many...), api.ErrForm},
		{"too many, then none", append(slices.Clone(many), none), api.ErrMany},
		{"none, then too many", append([]runs.Run{none}, many...), api.ErrRange},
		{"none where it would be too many", append(rowOf(320), none), api.ErrRange},
		{"too many by one that is none", append(rowOf(319), runs.Run{Sign: 18, More: 128}), api.ErrRange},
		{"too many, none in the midst of them", []runs.Run{many[0], none, many[1], many[2]}, api.ErrRange},
	} {
		wantError(t, x.what, x.l, x.want)
	}
}

// P8.1: lengths below and above what they may be, at each end of a row.
func TestOfRange(t *testing.T) {
	for _, n := range []int{math.MinInt, math.MinInt32, -16, -1, 16, 17, 18, 256, 1 << 32, math.MaxInt} {
		for _, count := range []int{1, 2, 100, 320} {
			for _, at := range []int{0, count / 2, count - 1} {
				l := times(3, count)
				l[at] = n
				wantNoRuns(t, "range", l, api.ErrRange)
			}
		}
	}
	for n := range 16 {
		wantTold(t, "a length", []int{n})
	}
}

// P8.1: 320 lengths, and more; that one may not be is named ahead of there being too many.
func TestOfMany(t *testing.T) {
	for n := range 16 {
		wantTold(t, "320", times(n, 320))
		for _, count := range []int{321, 322, 640, 100000} {
			wantNoRuns(t, "too many", times(n, count), api.ErrMany)
			for _, at := range []int{0, 319, 320, count - 1} {
				for _, wrong := range []int{-1, 16} {
					l := times(n, count)
					l[at] = wrong
					wantNoRuns(t, "too many, and range", l, api.ErrRange)
				}
			}
		}
	}
}

// P8.1, P8.2: noughts alone, of each number, in few runs.
func TestOfNoughts(t *testing.T) {
	for count := range 321 {
		if l := wantTold(t, "noughts", make([]int, count)); len(l) > count/138+3 {
			t.Error(count, l)
		}
	}
	wantTold(t, "nil", nil)
}

// P8.2: one length many times, alone and between others.
func TestOfLike(t *testing.T) {
	for n := range 16 {
		for count := 1; count <= 320; count++ {
			wantTold(t, "like", times(n, count))
		}
		for count := range 160 {
			for _, other := range []int{0, 1, n, 15} {
				wantTold(t, "behind", append([]int{other}, times(n, count)...))
				wantTold(t, "ahead", append(times(n, count), other))
				wantTold(t, "between", slices.Concat(times(other, 3), times(n, count), times(other, 150)))
			}
		}
	}
}

// P8.2: all short rows of three lengths.
func TestOfShort(t *testing.T) {
	rows := [][]int{nil}
	for range 8 {
		longer := [][]int{}
		for _, row := range rows {
			for _, n := range []int{0, 1, 15} {
				longer = append(longer, append(slices.Clone(row), n))
			}
		}
		for _, row := range longer {
			wantTold(t, "short", row)
		}
		rows = longer
	}
}

// P8.2: changing lengths, of few or many kinds, in short and long stretches.
func TestOfShapes(t *testing.T) {
	random := rand.New(rand.NewSource(1))
	for range 30000 {
		count, kinds, longest := random.Intn(321), 1+random.Intn(16), 1+random.Intn(1<<random.Intn(9))
		l := []int{}
		for len(l) < count {
			n := random.Intn(kinds)
			if random.Intn(3) == 0 {
				n = 0
			}
			l = append(l, times(n, 1+random.Intn(longest))...)
		}
		wantTold(t, "shape", l[:count])
	}
}

// P8.1: many rows of runs, right or wrong, against the chapter's words.
func TestExpandShapes(t *testing.T) {
	random := rand.New(rand.NewSource(2))
	for range 30000 {
		l := []runs.Run{}
		for range random.Intn(40) {
			sign := random.Intn(19)
			more := random.Intn(1 << bitsOf(sign))
			if random.Intn(60) == 0 {
				sign = 20 - random.Intn(22)
			}
			l = append(l, runs.Run{Sign: sign, More: more})
		}
		want, e := expected(l)
		if got, f := runs.Expand(l); !slices.Equal(got, want) || f != e {
			t.Fatal(l, got, f, want, e)
		}
	}
}

// expected is what Expand must answer.
func expected(l []runs.Run) ([]int, api.Errno) {
	for i, r := range l {
		switch {
		case r.Sign < 0 || r.Sign > 18 || r.More < 0 || r.More >= 1<<bitsOf(r.Sign):
			return nil, api.ErrRange
		case i == 0 && r.Sign == 16:
			return nil, api.ErrForm
		case len(told(l[:i+1])) > 320:
			return nil, api.ErrMany
		}
	}
	return told(l), api.OK
}

// P8.1: what is answered is new memory, and nothing that is handed in changes.
func TestMemory(t *testing.T) {
	l := []runs.Run{length(4), {Sign: 16, More: 2}, {Sign: 17}}
	kept := slices.Clone(l)
	got, _ := runs.Expand(l)
	clear(got)
	if !slices.Equal(l, kept) {
		t.Error("the runs changed:", l)
	}
	wantLengths(t, "again", l, []int{4, 4, 4, 4, 4, 4, 0, 0, 0})
	row := []int{4, 4, 4, 4, 0, 0, 0, 5}
	a, _ := runs.Of(row)
	b, _ := runs.Of(row)
	clear(a)
	clear(row)
	if !slices.Equal(told(b), []int{4, 4, 4, 4, 0, 0, 0, 5}) {
		t.Error("the runs changed with others:", b)
	}
}
