package op

import (
	"math"

	"hourglass/api"
	"hourglass/tape"
)

func (o Op) Bytes() []byte {
	if !o.Right() {
		return nil
	}
	return new(tape.Writer).Byte(o.Kind).Num(uint64(o.A)).Num(uint64(o.B)).Text(o.Name).Bytes()
}

func Parse(p []byte) (Op, api.Errno) {
	r := tape.Read(p)
	o := Op{
		Kind: r.Byte(),
		A:    api.ID(r.Num(math.MaxUint64)),
		B:    api.ID(r.Num(math.MaxUint64)),
		Name: r.Text(api.MaxName),
	}
	if r.Done() != api.OK || !o.Right() {
		return Op{}, api.ErrForm
	}
	return o, api.OK
}
