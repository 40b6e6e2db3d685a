package blocks

import (
	"slices"

	"packsaddle/api"
	"packsaddle/bitio"
	"packsaddle/inflate"
	"packsaddle/lengths"
	"packsaddle/prefix"
	"packsaddle/runs"
)

// What a dynamic block tells of its codes.
const (
	leastSigns     = 257
	leastDistances = 1
	leastOfLengths = 4
	maxRunBits     = 7 // of a word that a run is written by
)

// maxOften is how often a sign may come for layer 4.
const maxOften = 1 << 24

// counts are how often signs come, that of the end too, and how many bits are added to them in all.
type counts struct {
	signs     [maxSigns]int
	distances [maxDistances]int
	added     int
}

// block is how tokens of such counts are written: by the codes of two rows of lengths, behind a header.
type block struct {
	counts
	signLengths, distanceLengths []int
	header                       func(w *bitio.Writer, last bool)
}

// bits are how many the whole block takes.
func (b block) bits() int {
	ahead := bitio.NewWriter()
	b.header(ahead, false)
	return ahead.Len() + b.added + lengths.Cost(b.signs[:], b.signLengths) + lengths.Cost(b.distances[:], b.distanceLengths)
}

// write writes tokens, which are those that were counted: so each of their signs has a word, and no Put fails.
func (b block) write(w *bitio.Writer, l []api.Token, last bool) {
	b.header(w, last)
	signs, distances := codeOf(b.signLengths), codeOf(b.distanceLengths)
	for _, t := range l {
		putPart(w, signs, firstPart(t))
		if t.Len > 0 {
			putPart(w, distances, distancePart(t.Dist))
		}
	}
	signs.Put(w, endSign)
}

func putPart(w *bitio.Writer, code *prefix.Code, p part) {
	code.Put(w, p.sign)
	w.Put(uint32(p.more), p.bits)
}

// codeOf is the code of right lengths; those here are, for they are fixed, or layer 4's best.
func codeOf(l []int) *prefix.Code {
	code, _ := prefix.New(l)
	return code
}

// fixedBlock has the codes that all know, so its header tells none.
func fixedBlock(c counts) block {
	signs, distances := fixedLengths()
	return block{c, signs, distances, func(w *bitio.Writer, last bool) { start(w, kindFixed, last) }}
}

// fixedLengths are those of a fixed block's signs, and of its distances. Some are of signs that never come, but without them the codes wouldn't be whole.
func fixedLengths() ([]int, []int) {
	signs, distances := [288]int{}, [32]int{}
	for sign := range signs {
		switch {
		case sign <= 143:
			signs[sign] = 8
		case sign <= 255:
			signs[sign] = 9
		case sign <= 279:
			signs[sign] = 7
		default:
			signs[sign] = 8
		}
	}
	for sign := range distances {
		distances[sign] = 5
	}
	return signs[:], distances[:]
}

// dynamicBlock has the best codes for what was counted, and its header tells them.
func dynamicBlock(c counts) block {
	signs := trimmed(bestLengths(c.signs[:], api.MaxBits), leastSigns)
	distances := trimmed(bestLengths(c.distances[:], api.MaxBits), leastDistances)
	return block{c, signs, distances, func(w *bitio.Writer, last bool) {
		start(w, kindDynamic, last)
		putLengths(w, signs, distances)
	}}
}

// bestLengths are the lengths that cost least, of words of at most so many bits. There is no error: signs come as often as layer 4 lets them, and there are fewer than such words can tell apart.
func bestLengths(often []int, most int) []int {
	l, _ := lengths.Best(fewer(often), most)
	return l
}

// fewer are counts, halved till none is beyond what layer 4 takes; a sign that comes still does.
func fewer(often []int) []int {
	often = slices.Clone(often)
	for slices.Max(often) > maxOften {
		for i, n := range often {
			often[i] = (n + 1) / 2
		}
	}
	return often
}

// trimmed are lengths without the noughts that they end with, but at least so many.
func trimmed(l []int, least int) []int {
	count := len(l)
	for count > least && l[count-1] == 0 {
		count--
	}
	return l[:count]
}

// putLengths writes the lengths of a dynamic block's codes, in runs. There are at most as many as runs stand for.
func putLengths(w *bitio.Writer, signs, distances []int) {
	told, _ := runs.Of(slices.Concat(signs, distances))
	ofRuns := bestLengths(runsCounted(told), maxRunBits)
	ofLengths := trimmed(inOrder(ofRuns), leastOfLengths)
	w.Put(uint32(len(signs)-leastSigns), 5)
	w.Put(uint32(len(distances)-leastDistances), 5)
	w.Put(uint32(len(ofLengths)-leastOfLengths), 4)
	for _, n := range ofLengths {
		w.Put(uint32(n), 3)
	}
	code := codeOf(ofRuns)
	for _, r := range told {
		putPart(w, code, part{r.Sign, r.More, runs.Bits(r.Sign)})
	}
}

// runsCounted is how often each sign of runs comes.
func runsCounted(l []runs.Run) []int {
	often := [19]int{}
	for _, r := range l {
		often[r.Sign]++
	}
	return often[:]
}

// inOrder are lengths of lengths, by signs, in the order in which they are told.
func inOrder(l []int) []int {
	out := [19]int{}
	for i, sign := range inflate.Order() {
		out[i] = l[sign]
	}
	return out[:]
}
