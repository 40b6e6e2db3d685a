package lengths_test

import (
	"math"
	"math/rand"
	"slices"
	"testing"

	"packsaddle/api"
	"packsaddle/lengths"
)

// kindOf is the chapter's sentence, word for word.
func kindOf(l []int) int {
	words, weight := []int{}, 0.0
	for _, n := range l {
		if n < 0 || n > api.MaxBits {
			return lengths.Wrong
		}
		if n > 0 {
			words = append(words, n)
			weight += math.Pow(2, float64(api.MaxBits-n))
		}
	}
	switch {
	case weight == math.Pow(2, api.MaxBits):
		return lengths.Whole
	case len(words) == 1 && words[0] == 1:
		return lengths.Alone
	case len(words) == 0:
		return lengths.None
	}
	return lengths.Wrong
}

// eachRow hands out all rows of so many numbers, each from least to most. What is handed out is the caller's only till it answers.
func eachRow(count, least, most int, use func([]int)) {
	row := slices.Repeat([]int{least}, count)
	for {
		use(row)
		i := 0
		for i < count && row[i] == most {
			row[i] = least
			i++
		}
		if i == count {
			return
		}
		row[i]++
	}
}

func wantKind(t *testing.T, l []int, want int) {
	t.Helper()
	kept := slices.Clone(l)
	if got := lengths.Kind(l); got != want {
		t.Errorf("Kind of %d lengths, %v .. = %d, want %d", len(l), l[:min(len(l), 20)], got, want)
	}
	if !slices.Equal(l, kept) {
		t.Error("Kind changed its argument", kept)
	}
}

func wantCost(t *testing.T, often, l []int, want int) {
	t.Helper()
	if got := lengths.Cost(often, l); got != want {
		t.Errorf("Cost(%v, %v) = %d, want %d", often, l, got, want)
	}
}

func wantError(t *testing.T, often []int, most int, want api.Errno) {
	t.Helper()
	if l, e := lengths.Best(often, most); len(l) != 0 || e != want {
		t.Errorf("Best of %d signs up to %d = %v, %d; want none, %d", len(often), most, l, e, want)
	}
}

// coming is how many signs come.
func coming(often []int) int {
	count := 0
	for _, n := range often {
		if n > 0 {
			count++
		}
	}
	return count
}

// best is Best's answer, held against all that the chapter says of it but the cost.
func best(t *testing.T, often []int, most int) []int {
	t.Helper()
	kept := slices.Clone(often)
	l, e := lengths.Best(often, most)
	if e != api.OK || len(l) != len(often) {
		t.Fatalf("Best(%v, %d) = %v, %d", often, most, l, e)
	}
	for sign, n := range l {
		if often[sign] == 0 && n != 0 || often[sign] > 0 && (n < 1 || n > most) {
			t.Fatalf("Best(%v, %d) = %v: the length of sign %d", often, most, l, sign)
		}
	}
	want := lengths.Whole
	if coming(often) < 2 {
		want = lengths.None + coming(often)
	}
	if kindOf(l) != want {
		t.Fatalf("Best(%v, %d) = %v, of kind %d, want %d", often, most, l, kindOf(l), want)
	}
	if !slices.Equal(often, kept) {
		t.Fatal("Best changed its argument", kept)
	}
	return l
}

// costOf is the cost, added up on its own.
func costOf(often, l []int) int {
	sum := 0
	for i := range often {
		sum += often[i] * l[i]
	}
	return sum
}

func wantBest(t *testing.T, often []int, most, cost int) {
	t.Helper()
	l := best(t, often, most)
	if costOf(often, l) != cost {
		t.Errorf("Best(%v, %d) = %v costs %d, want %d", often, most, l, costOf(often, l), cost)
	}
	wantCost(t, often, l, cost)
}

// wholeRows are all whole lengths of so many words, each of at most so many bits.
func wholeRows(words, most int) [][]int {
	out := [][]int{}
	eachRow(words, 1, most, func(l []int) {
		if kindOf(l) == lengths.Whole {
			out = append(out, slices.Clone(l))
		}
	})
	return out
}

// leastCost is the least one, of all whole lengths tried one by one, for two signs that come or more.
func leastCost(often []int, rows [][]int) int {
	some := slices.DeleteFunc(slices.Clone(often), func(n int) bool { return n == 0 })
	least := math.MaxInt
	for _, l := range rows {
		least = min(least, costOf(some, l))
	}
	return least
}

// leastLevels is the least cost for more signs than can be tried one by one. On each level of the tree the most frequent signs that are left become words, and all others take one more bit.
func leastLevels(often []int, most int) int {
	some := slices.DeleteFunc(slices.Clone(often), func(n int) bool { return n == 0 })
	slices.SortFunc(some, func(a, b int) int { return b - a })
	known := map[[3]int]int{}
	var least func(level, done, open int) int
	least = func(level, done, open int) int {
		left := len(some) - done
		if left == open {
			return 0
		}
		if left < open || level == most {
			return math.MaxInt / 2
		}
		key := [3]int{level, done, open}
		if v, ok := known[key]; ok {
			return v
		}
		v := math.MaxInt / 2
		for words := range open {
			rest := 0
			for _, n := range some[done+words:] {
				rest += n
			}
			v = min(v, rest+least(level+1, done+words, 2*(open-words)))
		}
		known[key] = v
		return v
	}
	return least(0, 0, 1)
}

// leastUnbound is the least cost without a limit: the two rarest are joined, over and over.
func leastUnbound(often []int) int {
	some := slices.DeleteFunc(slices.Clone(often), func(n int) bool { return n == 0 })
	sum := 0
	for len(some) > 1 {
		slices.Sort(some)
		some = append(some[2:], some[0]+some[1])
		sum += some[len(some)-1]
	}
	return sum
}

// P4.1: the kinds have their numbers.
func TestKindNumbers(t *testing.T) {
	if got := []int{lengths.Wrong, lengths.None, lengths.Alone, lengths.Whole}; !slices.Equal(got, []int{0, 1, 2, 3}) {
		t.Error(got)
	}
}

// P4.1: Kind at lengths of each kind, and at those that aren't right.
func TestKind(t *testing.T) {
	ladder := []int{1, 2, 3, 4, 5, 6, 7, 8, 9, 10, 11, 12, 13, 14, 15, 15}
	for _, x := range []struct {
		l    []int
		want int
	}{
		{nil, lengths.None},
		{[]int{}, lengths.None},
		{[]int{0}, lengths.None},
		{[]int{0, 0, 0}, lengths.None},
		{[]int{1}, lengths.Alone},
		{[]int{0, 0, 1, 0}, lengths.Alone},
		{[]int{1, 1}, lengths.Whole},
		{[]int{0, 1, 0, 1}, lengths.Whole},
		{[]int{1, 2, 2}, lengths.Whole},
		{[]int{3, 1, 0, 3, 2}, lengths.Whole},
		{ladder, lengths.Whole},
		{ladder[:15], lengths.Wrong},
		{append(slices.Clone(ladder), 15), lengths.Wrong},
		{[]int{1, 2}, lengths.Wrong},
		{[]int{2, 2, 2}, lengths.Wrong},
		{[]int{1, 1, 1}, lengths.Wrong},
		{[]int{1, 1, 15}, lengths.Wrong},
		{[]int{1, 2, 2, 2}, lengths.Wrong},
		{[]int{2}, lengths.Wrong},
		{[]int{0, 15}, lengths.Wrong},
		{[]int{1, 15}, lengths.Wrong},
		{[]int{-1}, lengths.Wrong},
		{[]int{1, -1}, lengths.Wrong},
		{[]int{1, 1, -1}, lengths.Wrong},
		{[]int{0, -1}, lengths.Wrong},
		{[]int{16}, lengths.Wrong},
		{[]int{1, 16}, lengths.Wrong},
		{[]int{1, 1, 16}, lengths.Wrong},
		{[]int{1, 2, 3, 16, 0}, lengths.Wrong},
		{[]int{0, 0, 64}, lengths.Wrong},
		{[]int{math.MinInt, 1, 1}, lengths.Wrong},
		{[]int{1, 1, math.MaxInt}, lengths.Wrong},
	} {
		wantKind(t, x.l, x.want)
	}
}

// P4.1: as many words of one length as are whole, one fewer, one more, and so many that a weight of few bits would have gone round.
func TestKindOfMany(t *testing.T) {
	for n := 1; n <= api.MaxBits; n++ {
		full := slices.Repeat([]int{n}, 1<<n)
		wantKind(t, full, lengths.Whole)
		wantKind(t, append([]int{0}, full...), lengths.Whole)
		wantKind(t, append(full, n), lengths.Wrong)
		if n > 1 {
			wantKind(t, full[1:], lengths.Wrong)
		}
	}
	for _, count := range []int{1 << 17, 1<<17 + 1, 1<<17 + 2, 1<<18 + 1, 1<<18 + 2} {
		wantKind(t, slices.Repeat([]int{1}, count), lengths.Wrong)
	}
	wantKind(t, make([]int, 1<<20), lengths.None)
	wantKind(t, append(make([]int, 1<<20), 1), lengths.Alone)
}

// P4.1: Kind of all short rows is what the chapter's sentence says.
func TestKindOfAll(t *testing.T) {
	for count := range 6 {
		eachRow(count, -1, 5, func(l []int) { wantKind(t, l, kindOf(l)) })
	}
	eachRow(3, -2, api.MaxBits+2, func(l []int) { wantKind(t, l, kindOf(l)) })
}

// P4.1: Cost goes by as many signs as both have.
func TestCost(t *testing.T) {
	wantCost(t, nil, nil, 0)
	wantCost(t, []int{5}, nil, 0)
	wantCost(t, nil, []int{5}, 0)
	wantCost(t, []int{5, 1, 1}, []int{1, 2, 2}, 9)
	wantCost(t, []int{5, 1, 1, 100}, []int{1, 2, 2}, 9)
	wantCost(t, []int{5, 1, 1}, []int{1, 2, 2, 100}, 9)
	wantCost(t, []int{5}, []int{3, 2, 2}, 15)
	wantCost(t, []int{0, 7}, []int{9, 0}, 0)
	wantCost(t, []int{-3, 4}, []int{2, -1}, -10)
	often, l := []int{1, 2, 3}, []int{4, 5, 6}
	wantCost(t, often, l, 32)
	if !slices.Equal(often, []int{1, 2, 3}) || !slices.Equal(l, []int{4, 5, 6}) {
		t.Error("Cost changed its arguments", often, l)
	}
}

// P4.1: the cost's numbers go round.
func TestCostGoesRound(t *testing.T) {
	wantCost(t, []int{math.MaxInt, 1}, []int{1, 1}, math.MinInt)
	wantCost(t, []int{math.MaxInt}, []int{2}, -2)
	wantCost(t, []int{math.MinInt}, []int{-1}, math.MinInt)
	wantCost(t, []int{math.MinInt, 3}, []int{2, 2}, 6)
	wantCost(t, []int{math.MaxInt}, []int{math.MaxInt}, 1)
}

// P4.1: Best of no sign that comes, of one, and of the chapter's example.
func TestBestOfFew(t *testing.T) {
	for most := 1; most <= api.MaxBits; most++ {
		wantBest(t, nil, most, 0)
		wantBest(t, []int{}, most, 0)
		wantBest(t, []int{0}, most, 0)
		wantBest(t, make([]int, 512), most, 0)
		wantBest(t, []int{7}, most, 7)
		wantBest(t, []int{0, 0, 1 << 24, 0}, most, 1<<24)
		wantBest(t, []int{0, 9, 0, 1}, most, 10)
		wantBest(t, append(make([]int, 511), 3), most, 3)
	}
	if l := best(t, []int{5, 1, 1}, 15); !slices.Equal(l, []int{1, 2, 2}) {
		t.Error(l)
	}
	if l := best(t, []int{0, 0, 4}, 15); !slices.Equal(l, []int{0, 0, 1}) {
		t.Error(l)
	}
}

// P4.1: no lengths of few signs and few bits cost less, all of them tried.
func TestBestOfAll(t *testing.T) {
	for most := 1; most <= 4; most++ {
		rows := map[int][][]int{}
		for words := 2; words <= 5; words++ {
			rows[words] = wholeRows(words, most)
		}
		for count := range 6 {
			eachRow(count, 0, 4, func(often []int) {
				switch c := coming(often); {
				case c > 1<<most:
					wantError(t, often, most, api.ErrMany)
				case c > 1:
					wantBest(t, often, most, leastCost(often, rows[c]))
				default:
					best(t, often, most)
				}
			})
		}
	}
}

// someOften are numbers of many shapes: even ones, steep ones, and such as many signs share.
func someOften(random *rand.Rand, count int) []int {
	out := make([]int, count)
	a, b := 1, 1
	shape := random.Intn(5)
	for i := range out {
		switch shape {
		case 0:
			out[i] = random.Intn(1<<24 + 1)
		case 1:
			out[i] = 1 << random.Intn(25)
		case 2:
			out[i] = random.Intn(4)
		case 3: // each is as much as the two ahead: the deepest tree there is
			out[i] = a
			a, b = b, min(a+b, 1<<24)
		case 4:
			out[i] = 1 << 24 >> min(i, 24)
		}
	}
	random.Shuffle(count, func(i, k int) { out[i], out[k] = out[k], out[i] })
	return out
}

// P4.1: no lengths cost less, of numbers of many shapes.
func TestBestOfShapes(t *testing.T) {
	random := rand.New(rand.NewSource(1))
	rows := map[[2]int][][]int{}
	for words := 2; words <= 6; words++ {
		for most := 1; most <= 5; most++ {
			rows[[2]int{words, most}] = wholeRows(words, most)
		}
	}
	for range 2000 {
		often, most := someOften(random, random.Intn(7)), 1+random.Intn(5)
		if c := coming(often); c > 1 && c <= 1<<most {
			wantBest(t, often, most, leastCost(often, rows[[2]int{c, most}]))
			if leastLevels(often, most) != leastCost(often, rows[[2]int{c, most}]) {
				t.Fatal("the tests' two ways differ", often, most)
			}
		}
	}
}

// P4.1: no lengths of more signs cost less, whatever the limit.
func TestBestOfMore(t *testing.T) {
	random := rand.New(rand.NewSource(2))
	for range 300 {
		often, most := someOften(random, 2+random.Intn(30)), 1+random.Intn(api.MaxBits)
		c := coming(often)
		if c > 1<<most {
			wantError(t, often, most, api.ErrMany)
		} else if c > 1 {
			wantBest(t, often, most, leastLevels(often, most))
		}
	}
}

// P4.1: where the limit binds nobody, lengths cost what they cost without one; up to 512 signs.
func TestBestOfManySigns(t *testing.T) {
	random := rand.New(rand.NewSource(3))
	for _, count := range []int{286, 300, 511, 512} {
		often := make([]int, count)
		for i := range often {
			often[i] = 1000 + random.Intn(9000)
		}
		wantBest(t, often, 15, leastUnbound(often))
	}
	wantBest(t, slices.Repeat([]int{1 << 24}, 512), 15, 9*512<<24)
}

// P4.1: of just as many signs as there are words of the greatest length each has one of these; of one more there are none.
func TestBestOfFull(t *testing.T) {
	random := rand.New(rand.NewSource(4))
	for most := 1; most <= 9; most++ {
		often := make([]int, 1<<most)
		for i := range often {
			often[i] = 1 + random.Intn(1<<24)
		}
		if l := best(t, often, most); !slices.Equal(l, slices.Repeat([]int{most}, 1<<most)) {
			t.Error(most, l)
		}
		if most < 9 {
			wantBest(t, append(slices.Clone(often), 0), most, most*costOf(often, slices.Repeat([]int{1}, 1<<most)))
			wantError(t, append(slices.Clone(often), 1), most, api.ErrMany)
			wantError(t, append(slices.Clone(often), 0, 1), most, api.ErrMany)
		}
	}
	wantError(t, slices.Repeat([]int{1}, 512), 8, api.ErrMany)
}

// P4.1: more than 512 signs are too many, whether they come or not.
func TestBestTooMany(t *testing.T) {
	for _, most := range []int{1, 9, 10, 15} {
		wantError(t, make([]int, 513), most, api.ErrMany)
		wantError(t, append(make([]int, 512), 1), most, api.ErrMany)
		wantError(t, slices.Repeat([]int{1}, 513), most, api.ErrMany)
		wantError(t, make([]int, 1<<20), most, api.ErrMany)
	}
}

// P4.1: limits and numbers that may not be are told, ahead of too many signs.
func TestBestErrArg(t *testing.T) {
	many := slices.Repeat([]int{1}, 600)
	for _, most := range []int{0, -1, 16, 64, math.MinInt, math.MaxInt} {
		wantError(t, nil, most, api.ErrArg)
		wantError(t, []int{1, 2}, most, api.ErrArg)
		wantError(t, many, most, api.ErrArg)
	}
	for _, n := range []int{-1, math.MinInt, 1<<24 + 1, math.MaxInt} {
		for _, most := range []int{1, 15} {
			wantError(t, []int{n}, most, api.ErrArg)
			wantError(t, []int{0, 1, n, 0}, most, api.ErrArg)
			wantError(t, []int{1, 1, 1, n}, most, api.ErrArg)
			wantError(t, append(slices.Clone(many), n), most, api.ErrArg)
		}
		wantError(t, []int{n}, 0, api.ErrArg)
	}
	wantBest(t, []int{1 << 24, 1 << 24}, 1, 1<<25)
}

// P4.1: the same arguments have the same lengths, each time in new memory.
func TestBestIsTheSame(t *testing.T) {
	random := rand.New(rand.NewSource(5))
	for range 100 {
		often := someOften(random, 1+random.Intn(40))
		first := best(t, often, 7)
		kept := slices.Clone(first)
		clear(first)
		if again := best(t, slices.Clone(often), 7); !slices.Equal(again, kept) {
			t.Fatal("two answers", often, kept, again)
		}
	}
}
