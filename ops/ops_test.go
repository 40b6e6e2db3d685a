package ops_test

import (
	"math"
	"slices"
	"testing"

	"packsaddle/api"
	"packsaddle/ops"
)

// P18.1: the form of each opcode, and 0 of what is none.
func TestForm(t *testing.T) {
	for op := -70000; op <= 70000; op++ {
		if got, want := ops.Form(op), modelForms[op]; got != want {
			t.Errorf("Form of %d: %q, want %q", op, got, want)
		}
	}
	for _, op := range []int{186, 196, -1, 202, 255, 256, 256 + 16, -256 + 16, 1<<32 + 16, math.MinInt, math.MaxInt} {
		if got := ops.Form(op); got != 0 {
			t.Errorf("Form of %d: %q", op, got)
		}
	}
	many := map[byte]int{}
	for op := range 202 {
		many[ops.Form(op)]++
	}
	want := map[byte]int{0: 2, '-': 147, 'b': 1, 's': 1, 'c': 2, 'd': 1, 'v': 11, 'i': 1, 'j': 18, 'w': 2, 'p': 11, 'f': 1, 'a': 1, 'm': 1, 't': 1, 'l': 1}
	for form, n := range want {
		if many[form] != n {
			t.Errorf("form %q: %d opcodes, want %d", form, many[form], n)
		}
	}
}

// P18.1: how many bytes an instruction has, by its form and its numbers.
func TestSize(t *testing.T) {
	for _, c := range []struct {
		s    api.Step
		at   int
		want int
	}{
		{api.Step{Op: 0}, 0, 1}, {api.Step{Op: 177}, 9, 1}, {api.Step{Op: 195, Var: 300, Num: 300, Pool: 300}, 0, 1},
		{api.Step{Op: 16, Num: -1}, 0, 2}, {api.Step{Op: 17, Num: 1}, 0, 3},
		{api.Step{Op: 18}, 0, 2}, {api.Step{Op: 18, Pool: 255}, 0, 2}, {api.Step{Op: 18, Pool: 256}, 0, 3}, {api.Step{Op: 18, Pool: 65536}, 0, 3}, {api.Step{Op: 18, Pool: -1}, 0, 2},
		{api.Step{Op: 19, Pool: 255}, 0, 2}, {api.Step{Op: 19, Pool: 256}, 0, 3},
		{api.Step{Op: 20}, 0, 3}, {api.Step{Op: 20, Pool: 300}, 0, 3},
		{api.Step{Op: 21, Var: 255}, 0, 2}, {api.Step{Op: 58, Var: 256}, 0, 4}, {api.Step{Op: 169, Var: 70000}, 0, 4}, {api.Step{Op: 25, Var: -1}, 0, 2}, {api.Step{Op: 21, Num: 1000}, 0, 2},
		{api.Step{Op: 132, Var: 255, Num: 127}, 0, 3}, {api.Step{Op: 132, Num: -128}, 0, 3}, {api.Step{Op: 132, Num: 128}, 0, 6}, {api.Step{Op: 132, Num: -129}, 0, 6}, {api.Step{Op: 132, Var: 256}, 0, 6}, {api.Step{Op: 132, Var: -1}, 0, 3},
		{api.Step{Op: 153}, 0, 3}, {api.Step{Op: 167, To: 70000}, 0, 3}, {api.Step{Op: 168, To: -1}, 0, 3}, {api.Step{Op: 199}, 7, 3}, {api.Step{Op: 200}, 0, 5}, {api.Step{Op: 201}, 3, 5},
		{api.Step{Op: 178}, 0, 3}, {api.Step{Op: 193, Pool: 65536}, 0, 3}, {api.Step{Op: 185}, 0, 5}, {api.Step{Op: 188}, 0, 2}, {api.Step{Op: 197}, 0, 4}, {api.Step{Op: 197, Var: 300}, 0, 4},
		{api.Step{Op: -1}, 0, 0}, {api.Step{Op: 186}, 0, 0}, {api.Step{Op: 196}, 0, 0}, {api.Step{Op: 202}, 0, 0}, {api.Step{Op: 256}, 0, 0}, {api.Step{Op: math.MinInt}, 0, 0},
	} {
		if got := ops.Size(c.s, c.at); got != c.want {
			t.Errorf("Size of %v at %d: %d, want %d", c.s, c.at, got, c.want)
		}
	}
}

// P18.1: a switch's size hangs on its place, and on its keys; noughts bring what is behind them to a place that 4 divides.
func TestSwitchSize(t *testing.T) {
	noughts := map[int]int{0: 3, 1: 2, 2: 1, 3: 0, 4: 3, 7: 0, 65534: 1, -1: 0, -2: 1, -3: 2, -4: 3, -5: 0, math.MaxInt: 0, math.MaxInt - 3: 3, math.MinInt: 3, math.MinInt + 3: 0}
	for at, n := range noughts {
		for _, many := range []int{0, 1, 2, 100, 65535, 65536} {
			l := make([]int, many)
			for _, c := range []struct{ op, want int }{{170, 13 + n + 4*many}, {171, 9 + n + 8*many}} {
				if got := ops.Size(api.Step{Op: c.op, Keys: l, Targets: slices.Clone(l)}, at); got != c.want {
					t.Errorf("Size of %d, %d keys, at %d: %d, want %d", c.op, many, at, got, c.want)
				}
			}
		}
	}
}

// P18.1: a switch of too many keys, or of other targets than keys, has no size; other forms have no keys.
func TestNoSize(t *testing.T) {
	for _, op := range []int{170, 171, 177, 16, 132, 167, 200} {
		for _, c := range [][2]int{{65537, 65537}, {1 << 18, 1 << 18}, {0, 1}, {1, 0}, {3, 2}, {2, 3}, {65536, 65537}, {65536, 65535}, {65537, 65536}} {
			s := api.Step{Op: op, Keys: make([]int, c[0]), Targets: make([]int, c[1])}
			want := modelSize(api.Step{Op: op}, 0)
			if op == 170 || op == 171 {
				want = 0
			}
			if got := ops.Size(s, 0); got != want {
				t.Errorf("Size of %d, keys and targets %v: %d, want %d", op, c, got, want)
			}
		}
	}
}
