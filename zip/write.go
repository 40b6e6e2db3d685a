package zip

import (
	"slices"

	"packsaddle/api"
	"packsaddle/crc"
	"packsaddle/deflate"
	"packsaddle/record"
)

// writer has what was written so far of the two parts that grow with each entry.
type writer struct {
	entries, central []byte
	table            [256]uint32 // for the sums
}

// Write writes an archive. It is given up where it becomes too long, since nothing else can be wrong with it by then.
func Write(e []api.Entry, l api.Limits) ([]byte, api.Errno) {
	if !Limits(l) {
		return nil, api.ErrArg
	}
	if len(e) > l.Entries {
		return nil, api.ErrMany
	}
	if wrong := wrongEntry(e, l.Bytes); wrong != api.OK {
		return nil, wrong
	}
	w := &writer{table: crc.Table()}
	for i := 0; i < len(e) && w.size() <= l.Whole; i++ {
		w.put(e[i])
	}
	if w.size() > l.Whole {
		return nil, api.ErrLong
	}
	end := record.End(len(e), len(w.central), len(w.entries))
	return slices.Concat(w.entries, w.central, end), api.OK
}

// wrongEntry tells what is wrong with the first entry that may not be.
func wrongEntry(e []api.Entry, most int) api.Errno {
	ask := newJudge(most)
	for _, x := range e {
		if wrong := ask(x.Name, x.Time, len(x.Data)); wrong != api.OK {
			return wrong
		}
	}
	return api.OK
}

// size is how many bytes the archive has, with its end.
func (w *writer) size() int { return len(w.entries) + len(w.central) + endBytes }

// put writes an entry, and what the central record says of it.
func (w *writer) put(x api.Entry) {
	r := api.Record{
		Method: asTheyAre,
		Time:   x.Time,
		Sum:    crc.Add(&w.table, 0, x.Data),
		Packed: len(x.Data),
		Size:   len(x.Data),
		Name:   x.Name,
		Offset: len(w.entries),
	}
	data := x.Data
	if short := deflate.Deflate(data); len(short) < len(data) {
		r.Method, r.Packed, data = deflated, len(short), short
	}
	w.entries = append(append(w.entries, record.Local(r, false)...), data...)
	w.central = append(w.central, record.Central(r, false)...)
}
