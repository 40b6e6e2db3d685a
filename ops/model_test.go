package ops_test

import (
	"math"
	"reflect"
	"slices"
	"strconv"
	"strings"
	"testing"

	"packsaddle/api"
	"packsaddle/ops"
)

// What the chapter tells, by tables: the opcodes of each form, and the pieces that stand behind an opcode of it.
// A piece is a letter, and how many bytes it has: P Pool, V Var, N Num, T how far To is, 0 a nought;
// x a Var that isn't 0, y one of 4 to 11; z noughts up to a place that 4 divides; R and K keys in a row, and by pairs.

var opcodesOf = map[byte]string{
	'b': "16", 's': "17", 'c': "18 19", 'd': "20", 'v': "21-25 54-58 169", 'i': "132",
	'j': "153-168 198 199", 'w': "200 201", 'p': "178-184 187 189 192 193", 'f': "185", 'a': "188", 'm': "197", 't': "170", 'l': "171",
	'-': "0-15 26-53 59-131 133-152 172-177 190 191 194 195",
}

var piecesOf = map[byte]string{
	'-': "", 'b': "N1", 's': "N2", 'c': "P1", 'd': "P2", 'v': "V1", 'i': "V1 N1",
	'j': "T2", 'w': "T4", 'p': "P2", 'f': "P2 x1 01", 'a': "y1", 'm': "P2 x1", 't': "z T4 R", 'l': "z T4 K",
}

var modelForms = formsOf()

func formsOf() map[int]byte {
	out := map[int]byte{}
	for form, rows := range opcodesOf {
		for row := range strings.FieldsSeq(rows) {
			from, till, found := strings.Cut(row, "-")
			if !found {
				till = from
			}
			first, _ := strconv.Atoi(from)
			last, _ := strconv.Atoi(till)
			for op := first; op <= last; op++ {
				out[op] = form
			}
		}
	}
	return out
}

// number is what bytes say, the highest first, with a sign, if there may be one.
func number(b []byte, sign bool) int {
	n := 0
	for i, x := range b {
		n = n*256 + int(x)
		if i == 0 && sign && x > 127 {
			n -= 256
		}
	}
	return n
}

// fault is an error that stops a modelled reading.
type fault api.Errno

// modelReader has bytes, and how many of them were read.
type modelReader struct {
	b  []byte
	at int
}

func (m *modelReader) next(bytes int, sign bool) int {
	if m.at+bytes > len(m.b) {
		panic(fault(api.ErrEnd))
	}
	m.at += bytes
	return number(m.b[m.at-bytes:m.at], sign)
}

func ask(right bool, e api.Errno) {
	if !right {
		panic(fault(e))
	}
}

// modelRead reads piece by piece.
func modelRead(b []byte) (out []api.Step, e api.Errno) {
	defer func() {
		if f, ok := recover().(fault); ok {
			out, e = nil, api.Errno(f)
		}
	}()
	ask(len(b) > 0, api.ErrArg)
	ask(len(b) <= 65535, api.ErrLong)
	m := &modelReader{b: b}
	var places []int
	for m.at < len(b) {
		places = append(places, m.at)
		out = append(out, m.step())
	}
	for _, s := range out {
		goes := slices.Clone(s.Targets)
		if strings.Contains(piecesOf[modelForms[s.Op]], "T") {
			goes = append(goes, s.To)
		}
		for _, to := range goes {
			_, found := slices.BinarySearch(places, to)
			ask(found, api.ErrPlace)
		}
	}
	return out, api.OK
}

func (m *modelReader) step() api.Step {
	s := api.Step{At: m.at}
	s.Op = m.next(1, false)
	more := 0
	if s.Op == 196 {
		s.Op, more = m.next(1, false), 1
		ask(modelForms[s.Op] == 'v' || modelForms[s.Op] == 'i', api.ErrKind)
	}
	pieces, known := piecesOf[modelForms[s.Op]]
	ask(known, api.ErrKind)
	if s.Op == 19 {
		s.Op, more = 18, 1
	}
	for piece := range strings.FieldsSeq(pieces) {
		bytes := more
		if len(piece) > 1 {
			bytes += int(piece[1] - '0')
		}
		m.piece(&s, piece[0], bytes)
	}
	return s
}

func (m *modelReader) piece(s *api.Step, what byte, bytes int) {
	switch what {
	case 'P':
		s.Pool = m.next(bytes, false)
	case 'V':
		s.Var = m.next(bytes, false)
	case 'N':
		s.Num = m.next(bytes, true)
	case 'T':
		s.To = s.At + m.next(bytes, true)
	case '0':
		ask(m.next(bytes, false) == 0, api.ErrForm)
	case 'x':
		s.Var = m.next(bytes, false)
		ask(s.Var != 0, api.ErrForm)
	case 'y':
		s.Var = m.next(bytes, false)
		ask(s.Var >= 4 && s.Var <= 11, api.ErrForm)
	case 'z':
		for m.at%4 != 0 {
			ask(m.next(1, false) == 0, api.ErrForm)
		}
	case 'R':
		first := m.next(4, true)
		last := m.next(4, true)
		ask(last >= first, api.ErrForm)
		for key := first; key <= last; key++ {
			s.Keys = append(s.Keys, key)
			s.Targets = append(s.Targets, s.At+m.next(4, true))
		}
	case 'K':
		many := m.next(4, true)
		ask(many >= 0, api.ErrForm)
		for i := range many {
			key := m.next(4, true)
			ask(i == 0 || key > s.Keys[i-1], api.ErrForm)
			s.Keys = append(s.Keys, key)
			s.Targets = append(s.Targets, s.At+m.next(4, true))
		}
	}
}

// modelWriter has bytes, and whether all numbers were such that may be written.
type modelWriter struct {
	b     []byte
	at    int
	right bool
}

func (m *modelWriter) next(v, bytes, least, most int) {
	if v < least || v > most {
		m.right = false
	}
	for i := bytes - 1; i >= 0; i-- {
		m.b = append(m.b, byte(v>>(8*i)))
	}
}

func (m *modelWriter) far(to, bytes, least, most, farthest int) {
	if to < 0 || to > farthest {
		m.right = false
		return
	}
	m.next(to-m.at, bytes, least, most)
}

// modelRight asks all that is ErrForm.
func modelRight(s api.Step, form byte) bool {
	switch form {
	case 'f', 'm':
		return s.Var > 0 && s.Var < 256
	case 'a':
		return s.Var > 3 && s.Var < 12
	case 't', 'l':
		for i := 1; i < len(s.Keys); i++ {
			ahead, key := s.Keys[i-1], s.Keys[i]
			if key <= ahead || form == 't' && key-1 != ahead {
				return false
			}
		}
		return len(s.Keys) == len(s.Targets) && (form == 'l' || len(s.Keys) > 0)
	}
	return true
}

// modelPut puts piece by piece.
func modelPut(b []byte, s api.Step) ([]byte, api.Errno) {
	form, known := modelForms[s.Op]
	if !known {
		return nil, api.ErrKind
	}
	if !modelRight(s, form) {
		return nil, api.ErrForm
	}
	m := &modelWriter{slices.Clone(b), len(b), true}
	most := 255
	wide := s.Var > 255 || form == 'i' && (s.Num < -128 || s.Num > 127)
	switch {
	case form == 'c' && s.Pool < 256:
		m.b = append(m.b, 18)
	case form == 'c':
		m.b, most = append(m.b, 19), 65535
	case (form == 'v' || form == 'i') && wide:
		m.b, most = append(m.b, 196, byte(s.Op)), 65535
	default:
		m.b = append(m.b, byte(s.Op))
	}
	for piece := range strings.FieldsSeq(piecesOf[form]) {
		m.piece(s, piece, most)
	}
	if !m.right {
		return nil, api.ErrRange
	}
	return m.b, api.OK
}

func (m *modelWriter) piece(s api.Step, piece string, most int) {
	bytes := 1
	if most > 255 {
		bytes = 2
	}
	switch piece {
	case "N1":
		m.next(s.Num, bytes, -most/2-1, most/2)
	case "N2":
		m.next(s.Num, 2, -32768, 32767)
	case "P1":
		m.next(s.Pool, bytes, 0, most)
	case "P2":
		m.next(s.Pool, 2, 0, 65535)
	case "V1", "x1", "y1":
		m.next(s.Var, bytes, 0, most)
	case "01":
		m.next(0, 1, 0, 0)
	case "T2":
		m.far(s.To, 2, -32768, 32767, 1<<40)
	case "T4":
		m.far(s.To, 4, math.MinInt32, math.MaxInt32, 1<<40)
	case "z":
		for len(m.b)%4 != 0 {
			m.b = append(m.b, 0)
		}
		m.right = m.right && s.To <= 1<<30
	case "R":
		m.next(s.Keys[0], 4, math.MinInt32, math.MaxInt32)
		m.next(s.Keys[len(s.Keys)-1], 4, math.MinInt32, math.MaxInt32)
		for _, to := range s.Targets {
			m.far(to, 4, math.MinInt32, math.MaxInt32, 1<<30)
		}
	case "K":
		m.next(len(s.Keys), 4, 0, math.MaxInt32)
		for i, to := range s.Targets {
			m.next(s.Keys[i], 4, math.MinInt32, math.MaxInt32)
			m.far(to, 4, math.MinInt32, math.MaxInt32, 1<<30)
		}
	}
}

// modelSize counts the bytes of pieces.
func modelSize(s api.Step, at int) int {
	form, known := modelForms[s.Op]
	switchy := form == 't' || form == 'l'
	if !known || switchy && (len(s.Keys) > 65536 || len(s.Keys) != len(s.Targets)) {
		return 0
	}
	size := 1
	for _, sign := range piecesOf[form] {
		switch {
		case sign > '0' && sign <= '9':
			size += int(sign - '0')
		case sign == '0':
			size++
		case sign == 'z':
			for place := at%4 + 5; place%4 != 0; place++ {
				size++
			}
		case sign == 'R':
			size += 8 + 4*len(s.Keys)
		case sign == 'K':
			size += 4 + 8*len(s.Keys)
		}
	}
	size -= strings.Count(piecesOf[form], "01") // a nought and its one byte were both counted
	switch {
	case form == 'c' && s.Pool > 255:
		size++
	case form == 'v' && s.Var > 255:
		size = 4
	case form == 'i' && (s.Var > 255 || s.Num < -128 || s.Num > 127):
		size = 6
	}
	return size
}

func sameSteps(a, b []api.Step) bool {
	return slices.EqualFunc(a, b, sameStep)
}

// sameStep takes what is nil and what is empty for one.
func sameStep(a, b api.Step) bool {
	if !slices.Equal(a.Keys, b.Keys) || !slices.Equal(a.Targets, b.Targets) {
		return false
	}
	a.Keys, a.Targets, b.Keys, b.Targets = nil, nil, nil, nil
	return reflect.DeepEqual(a, b)
}

// wantRead asks for what is read of bytes, that they are as they were, and that what is read is written again.
func wantRead(t *testing.T, b []byte) ([]api.Step, api.Errno) {
	t.Helper()
	kept := slices.Clone(b)
	want, e := modelRead(b)
	got, f := ops.Read(b)
	if e != f || !sameSteps(got, want) {
		t.Fatalf("Read of %v: %v, error %d; want %v, error %d", short(b), short(got), f, short(want), e)
	}
	if !slices.Equal(b, kept) {
		t.Fatalf("Read changed %v", short(kept))
	}
	return got, f
}

// wantStep asks for all that is answered of an instruction, behind bytes and at a place.
func wantStep(t *testing.T, b []byte, s api.Step, at int) ([]byte, api.Errno) {
	t.Helper()
	keptBytes, kept := slices.Clone(b), s
	kept.Keys, kept.Targets = slices.Clone(s.Keys), slices.Clone(s.Targets)
	if got, want := ops.Size(s, at), modelSize(s, at); got != want {
		t.Fatalf("Size of %v at %d: %d, want %d", told(s), at, got, want)
	}
	want, e := modelPut(b, s)
	got, f := ops.Put(b, s)
	if e != f || !slices.Equal(got, want) {
		t.Fatalf("Put of %v at %d: %v, error %d; want %v, error %d", told(s), len(b), short(got[min(len(b), len(got)):]), f, short(want[min(len(b), len(want)):]), e)
	}
	if size := ops.Size(s, len(b)); f == api.OK && len(got)-len(b) != size && len(s.Keys) <= api.MaxCode {
		t.Fatalf("Put of %v at %d: %d bytes, and its size is %d", told(s), len(b), len(got)-len(b), size)
	}
	if !slices.Equal(b, keptBytes) || !sameStep(s, kept) {
		t.Fatalf("%v behind %v: changed", told(kept), short(keptBytes))
	}
	return got, f
}

// short is a row, as much of it as a message bears.
func short[T any](row []T) []T { return row[:min(len(row), 40)] }

// told is an instruction, as much of it as a message bears.
func told(s api.Step) api.Step {
	s.Keys, s.Targets = short(s.Keys), short(s.Targets)
	return s
}
