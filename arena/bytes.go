package arena

import (
	"math"

	"hourglass/api"
	"hourglass/tape"
)

func (a *Arena) Bytes() []byte {
	if a == nil {
		return nil
	}
	w := new(tape.Writer).Num(uint64(len(a.nodes)))
	var before api.ID
	for _, id := range a.IDs() {
		w.Num(uint64(id - before))
		write(w, a.nodes[id])
		before = id
	}
	return w.Bytes()
}

func write(w *tape.Writer, n api.Node) {
	w.Byte(n.Kind).Text(n.Name).Int(n.Num).Byte(n.Type).Num(uint64(n.Ref))
	w.Num(uint64(len(n.Kids)))
	for _, kid := range n.Kids {
		w.Num(uint64(kid))
	}
}

func Parse(p []byte) (*Arena, api.Errno) {
	r := tape.Read(p)
	a := empty()
	var id uint64
	for range r.Num(api.MaxNodes) {
		step := r.Num(math.MaxUint64 - id)
		if step == 0 { // also if the bytes are invalid
			return nil, api.ErrForm
		}
		id += step
		a.set(api.ID(id), read(r))
	}
	if r.Done() != api.OK {
		return nil, api.ErrForm
	}
	return a, api.OK
}

// read returns a node; if the bytes are invalid, so is the Reader afterwards.
func read(r *tape.Reader) api.Node {
	n := api.Node{
		Kind: r.Byte(),
		Name: r.Text(api.MaxName),
		Num:  r.Int(),
		Type: r.Byte(),
		Ref:  api.ID(r.Num(math.MaxUint64)),
	}
	// Each child has a byte at least: a greater number asks for no memory.
	n.Kids = make([]api.ID, r.Num(uint64(r.Left())))
	for i := range n.Kids {
		n.Kids[i] = api.ID(r.Num(math.MaxUint64))
	}
	return n
}
