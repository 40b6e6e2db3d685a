package ops

import (
	"slices"

	"packsaddle/api"
	"packsaddle/cursor"
)

// How far places may be from the first one: near enough that what lies between two of them is reckoned right.
const (
	farthest       = 1 << 40
	farthestSwitch = 1 << 30
)

// writer puts the numbers of an instruction behind bytes.
type writer struct {
	out    []byte
	at     int  // where the instruction stands
	beyond bool // a number was beyond what may be written
}

// Put writes an instruction.
func Put(b []byte, s api.Step) ([]byte, api.Errno) {
	form := Form(s.Op)
	if form == 0 {
		return nil, api.ErrKind
	}
	if !mayBe(s.Var, form) || !keysMayBe(s, form) {
		return nil, api.ErrForm
	}
	w := &writer{out: slices.Clone(b), at: len(b)}
	w.opcode(s, form)
	w.numbers(s, form)
	if w.beyond {
		return nil, api.ErrRange
	}
	return w.out, api.OK
}

// keysMayBe asks whether the keys and targets of a switch are ones that may stand there, whatever may be written.
func keysMayBe(s api.Step, form byte) bool {
	switch form {
	case 't':
		return len(s.Keys) > 0 && len(s.Keys) == len(s.Targets) && inTurn(s.Keys, follows)
	case 'l':
		return len(s.Keys) == len(s.Targets) && inTurn(s.Keys, rises)
	}
	return true
}

// inTurn asks whether each number stands to the one ahead as it should.
func inTurn(l []int, right func(ahead, n int) bool) bool {
	for i, n := range l {
		if i > 0 && !right(l[i-1], n) {
			return false
		}
	}
	return true
}

func rises(ahead, n int) bool { return ahead < n }

// follows asks whether n is one more; the greatest number has none behind it.
func follows(ahead, n int) bool { return ahead < n && ahead+1 == n }

// opcode puts it, in the shortest way.
func (w *writer) opcode(s api.Step, form byte) {
	op := s.Op
	switch {
	case form == 'c' && width(s, form) == 1:
		op = shortConstant
	case form == 'c':
		op = longConstant
	case width(s, form) == 2:
		w.plain(wider, 1)
	}
	w.plain(op, 1)
}

// numbers puts what stands behind an opcode.
func (w *writer) numbers(s api.Step, form byte) {
	switch form {
	case 'b':
		w.signed(s.Num, 1)
	case 's':
		w.signed(s.Num, 2)
	case 'c':
		w.plain(s.Pool, width(s, form))
	case 'd', 'p':
		w.plain(s.Pool, 2)
	case 'v':
		w.plain(s.Var, width(s, form))
	case 'i':
		w.plain(s.Var, width(s, form))
		w.signed(s.Num, width(s, form))
	case 'j':
		w.far(s.To, farthest, 2)
	case 'w':
		w.far(s.To, farthest, 4)
	case 'f':
		w.plain(s.Pool, 2)
		w.plain(s.Var, 1)
		w.plain(0, 1)
	case 'a':
		w.plain(s.Var, 1)
	case 'm':
		w.plain(s.Pool, 2)
		w.plain(s.Var, 1)
	case 't', 'l':
		w.choices(s, form)
	}
}

// choices puts what stands behind a switch's opcode.
func (w *writer) choices(s api.Step, form byte) {
	for range noughts(w.at) {
		w.plain(0, 1)
	}
	w.far(s.To, farthestSwitch, 4)
	if form == 't' {
		w.signed(s.Keys[0], 4)
		w.signed(s.Keys[len(s.Keys)-1], 4)
	} else {
		w.signed(len(s.Keys), 4)
	}
	for i, key := range s.Keys {
		if form == 'l' {
			w.signed(key, 4)
		}
		w.far(s.Targets[i], farthestSwitch, 4)
	}
}

// plain puts a number without a sign.
func (w *writer) plain(v, bytes int) { w.put(v, bytes, 0, 1<<(8*bytes)-1) }

// signed puts a number whose highest bit is its sign.
func (w *writer) signed(v, bytes int) {
	half := 1 << (8*bytes - 1)
	w.put(v, bytes, -half, half-1)
}

// far puts how far a place is, which is at most so great.
func (w *writer) far(to, most, bytes int) {
	if to < 0 || to > most {
		w.beyond = true
		return
	}
	w.signed(to-w.at, bytes)
}

func (w *writer) put(v, bytes, least, most int) {
	if v < least || v > most {
		w.beyond = true
		return
	}
	w.out = append(w.out, cursor.Big(nil, uint64(v), bytes)...)
}
