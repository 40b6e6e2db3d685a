package ops

import (
	"packsaddle/api"
	"packsaddle/cursor"
)

// reader reads numbers one by one, so that its cursor keeps the first error as the bytes come.
type reader struct {
	*cursor.Cursor
	forms table // made once, for many instructions
}

// Read reads all instructions.
func Read(b []byte) ([]api.Step, api.Errno) {
	if len(b) == 0 {
		return nil, api.ErrArg
	}
	if len(b) >= api.MaxCode {
		return nil, api.ErrLong
	}
	r := reader{cursor.New(b), forms()}
	var out []api.Step
	for r.Err() == api.OK && r.Left() > 0 {
		out = append(out, r.step())
	}
	if r.Err() != api.OK {
		return nil, r.Err()
	}
	if !r.allReached(out) {
		return nil, api.ErrPlace
	}
	return out, api.OK
}

// step reads an instruction.
func (r reader) step() api.Step {
	s := api.Step{At: r.At()}
	s.Op = r.plain(1)
	wide := s.Op == wider
	if wide {
		s.Op = r.plain(1)
	}
	form := r.forms.of(s.Op)
	switch {
	case form == 0 || wide && !widens(form):
		r.Fail(api.ErrKind)
	case wide || s.Op == longConstant:
		r.numbers(&s, form, 2)
	default:
		r.numbers(&s, form, 1)
	}
	return s
}

// numbers reads what stands behind an opcode; width is how many bytes the numbers have of a form that may be written in two ways.
func (r reader) numbers(s *api.Step, form byte, width int) {
	switch form {
	case 'b':
		s.Num = r.signed(1)
	case 's':
		s.Num = r.signed(2)
	case 'c':
		s.Op = shortConstant
		s.Pool = r.plain(width)
	case 'd', 'p':
		s.Pool = r.plain(2)
	case 'v':
		s.Var = r.plain(width)
	case 'i':
		s.Var = r.plain(width)
		s.Num = r.signed(width)
	case 'j':
		s.To = s.At + r.signed(2)
	case 'w':
		s.To = s.At + r.signed(4)
	case 'f':
		s.Pool = r.plain(2)
		s.Var = r.among(form)
		r.nought()
	case 'a':
		s.Var = r.among(form)
	case 'm':
		s.Pool = r.plain(2)
		s.Var = r.among(form)
	case 't', 'l':
		r.choices(s, form)
	}
}

// choices reads what stands behind a switch's opcode.
func (r reader) choices(s *api.Step, form byte) {
	for range noughts(s.At) {
		r.nought()
	}
	s.To = s.At + r.signed(4)
	if form == 't' {
		r.inRow(s)
	} else {
		r.byPairs(s)
	}
}

// inRow reads the targets of keys that stand in a row. As many as the first and the last one tell of needn't be there, so it ends with the bytes.
func (r reader) inRow(s *api.Step) {
	first := r.signed(4)
	last := r.signed(4)
	if last < first {
		r.Fail(api.ErrForm)
	}
	for key := first; key <= last && r.Err() == api.OK; key++ {
		s.Keys = append(s.Keys, key)
		s.Targets = append(s.Targets, s.At+r.signed(4))
	}
}

// byPairs reads keys, each with its target, and ends with the bytes, too.
func (r reader) byPairs(s *api.Step) {
	many := r.signed(4)
	if many < 0 {
		r.Fail(api.ErrForm)
	}
	for i := 0; i < many && r.Err() == api.OK; i++ {
		key := r.signed(4)
		if i > 0 && key <= s.Keys[i-1] {
			r.Fail(api.ErrForm)
		}
		s.Keys = append(s.Keys, key)
		s.Targets = append(s.Targets, s.At+r.signed(4))
	}
}

// plain reads a number without a sign.
func (r reader) plain(bytes int) int { return int(r.Big(bytes)) }

// signed reads a number whose highest bit is its sign.
func (r reader) signed(bytes int) int {
	above := 64 - 8*bytes
	return int(int64(r.Big(bytes)<<above) >> above)
}

// among reads a Var of which a form lets through only some.
func (r reader) among(form byte) int {
	v := r.plain(1)
	if !mayBe(v, form) {
		r.Fail(api.ErrForm)
	}
	return v
}

func (r reader) nought() {
	if r.plain(1) != 0 {
		r.Fail(api.ErrForm)
	}
}

// allReached asks whether all go to places of instructions.
func (r reader) allReached(l []api.Step) bool {
	stands := standing(l)
	for _, s := range l {
		if hasTo(r.forms.of(s.Op)) && !stands(s.To) {
			return false
		}
		for _, place := range s.Targets {
			if !stands(place) {
				return false
			}
		}
	}
	return true
}

// standing asks of a place whether one of the instructions stands there.
func standing(l []api.Step) func(int) bool {
	places := make(map[int]struct{}, len(l))
	for _, s := range l {
		places[s.At] = struct{}{}
	}
	return func(place int) bool {
		_, there := places[place]
		return there
	}
}
