package zip

import (
	"packsaddle/api"
	"packsaddle/crc"
	"packsaddle/cursor"
	"packsaddle/deflate"
	"packsaddle/record"
)

// endBytes is how many bytes the end has.
const endBytes = 22

// said is what a central record says of an entry.
type said struct {
	api.Record
	behind bool // what it says of the data stands behind them too, and not ahead
}

// reader goes through the entries, at whose bytes alone its cursor looks.
type reader struct {
	*cursor.Cursor
	judge judge
	table [256]uint32 // for the sums; made once, for an archive may have many small entries
}

// Read reads an archive.
func Read(b []byte, l api.Limits) ([]api.Entry, api.Errno) {
	if !Limits(l) {
		return nil, api.ErrArg
	}
	if len(b) > l.Whole {
		return nil, api.ErrLong
	}
	all, from, e := readCentral(b, l.Entries)
	if e != api.OK {
		return nil, e
	}
	r := &reader{cursor.New(b[:from]), newJudge(l.Bytes), crc.Table()}
	out := make([]api.Entry, len(all))
	for i, s := range all {
		data, e := r.entry(s)
		if e != api.OK {
			return nil, e
		}
		out[i] = api.Entry{Name: s.Name, Time: s.Time, Data: data}
	}
	if r.Left() > 0 {
		return nil, api.ErrPlace
	}
	return out, api.OK
}

// readCentral reads the end, and the central records ahead of it, of which there may be so many; and tells where these begin.
func readCentral(b []byte, most int) ([]said, int, api.Errno) {
	till := max(len(b)-endBytes, 0)
	end := cursor.New(b[till:])
	many, size, from := record.ReadEnd(end)
	switch {
	case end.Err() != api.OK:
		return nil, 0, end.Err()
	case from+size != till:
		return nil, 0, api.ErrForm
	case many > most:
		return nil, 0, api.ErrMany
	}
	c := cursor.New(b[from:till])
	var all []said
	for range many {
		r, behind := record.ReadCentral(c)
		if c.Err() != api.OK {
			return nil, 0, c.Err()
		}
		all = append(all, said{r, behind})
	}
	return all, from, c.End()
}

// entry reads the entry that a central record tells of, and answers its bytes.
func (r *reader) entry(s said) ([]byte, api.Errno) {
	if s.Offset != r.At() {
		return nil, api.ErrPlace
	}
	if e := r.judge(s.Name, s.Time, s.Size); e != api.OK {
		return nil, e
	}
	packed, e := r.packed(s)
	if e != api.OK {
		return nil, e
	}
	data, e := s.unpack(packed)
	if e != api.OK {
		return nil, e
	}
	if crc.Add(&r.table, 0, data) != s.Sum {
		return nil, api.ErrCheck
	}
	return data, api.OK
}

// packed reads an entry's data as they are written, and what stands ahead of them and behind.
func (r *reader) packed(s said) ([]byte, api.Errno) {
	local, behind := record.ReadLocal(r.Cursor)
	if r.Err() == api.OK && (behind != s.behind || local != s.ahead()) {
		return nil, api.ErrForm
	}
	data := r.Take(s.Packed)
	if s.behind {
		told := record.ReadBehind(r.Cursor)
		if r.Err() == api.OK && told != s.ofData() {
			return nil, api.ErrForm
		}
	}
	return data, r.Err()
}

// ahead is what the local record must say.
func (s said) ahead() api.Record {
	local := s.Record
	local.Offset = 0
	if s.behind {
		local.Sum, local.Packed, local.Size = 0, 0, 0
	}
	return local
}

// ofData is what must stand behind the data.
func (s said) ofData() api.Record {
	return api.Record{Sum: s.Sum, Packed: s.Packed, Size: s.Size}
}

// unpack is what data stand for. So many bytes as are told may come out, for they were held against what is let through.
func (s said) unpack(packed []byte) ([]byte, api.Errno) {
	data := packed
	if s.Method == deflated {
		e := api.OK
		data, e = deflate.Inflate(packed, s.Size)
		if e != api.OK {
			return nil, e
		}
	}
	if len(data) != s.Size {
		return nil, api.ErrForm
	}
	return data, api.OK
}
