package branch

import (
	"hourglass/api"
	"hourglass/past"
	"hourglass/tape"
	"hourglass/token"
)

func (b *Book) Bytes() []byte {
	if b == nil {
		return nil
	}
	w := new(tape.Writer).Num(uint64(b.stamp)).Num(uint64(b.current)).Num(uint64(len(b.branches)))
	for _, each := range b.branches {
		w.Text(each.name).Text(string(each.Bytes()))
	}
	return w.Bytes()
}

func Parse(p []byte) (*Book, api.Errno) {
	r := tape.Read(p)
	b := &Book{stamp: uint32(r.Num(lastStamp))}
	b.current = int(r.Num(api.MaxBranch - 1))
	for range r.Num(api.MaxBranch) {
		if !b.read(r) {
			return nil, api.ErrForm
		}
	}
	if r.Done() != api.OK || b.current >= len(b.branches) {
		return nil, api.ErrForm
	}
	return b, api.OK
}

// read reports whether a branch comes next that the book can have.
func (b *Book) read(r *tape.Reader) bool {
	name := r.Text(api.MaxName)
	p, e := past.Parse([]byte(r.Text(r.Left())))
	if e != api.OK || !token.IsName(name) || b.find(name) >= 0 || p.Stamp() > b.stamp {
		return false
	}
	b.branches = append(b.branches, branch{Past: p, name: name})
	return true
}
