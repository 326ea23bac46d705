package past

import (
	"math"

	"hourglass/api"
	"hourglass/arena"
	"hourglass/op"
	"hourglass/tape"
)

func (p *Past) Bytes() []byte {
	if p == nil {
		return nil
	}
	w := new(tape.Writer).Num(uint64(p.frozen)).Text(string(p.base.Bytes())).Num(uint64(len(p.entries)))
	for _, e := range p.entries {
		w.Num(uint64(e.Stamp - p.frozen)).Text(string(e.Op.Bytes())).Bool(e.Live)
	}
	return w.Bytes()
}

func Parse(b []byte) (*Past, api.Errno) {
	r := tape.Read(b)
	frozen := uint32(r.Num(math.MaxUint32))
	base, e := arena.Parse([]byte(r.Text(r.Left())))
	if e != api.OK {
		return nil, api.ErrForm
	}
	entries, ok := readEntries(r, frozen)
	if !ok || r.Done() != api.OK {
		return nil, api.ErrForm
	}
	return restored(base, frozen, entries)
}

// readEntries reports whether all entries can be those of a past.
func readEntries(r *tape.Reader, frozen uint32) ([]Entry, bool) {
	var entries []Entry
	for range r.Num(api.MaxOps) {
		after := uint32(r.Num(uint64(math.MaxUint32 - frozen)))
		o, e := op.Parse([]byte(r.Text(r.Left())))
		if after == 0 || e != api.OK {
			return nil, false
		}
		entries = append(entries, Entry{Stamp: frozen + after, Op: o, Live: r.Bool()})
	}
	return entries, distinct(entries)
}

func restored(base *arena.Arena, frozen uint32, entries []Entry) (*Past, api.Errno) {
	p, e := New(base, frozen)
	if e != api.OK {
		return nil, api.ErrForm
	}
	if _, e := p.exchange(entries); e != api.OK {
		return nil, api.ErrForm
	}
	return p, api.OK
}
