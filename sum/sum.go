// Package sum is layer 2, checksums that detect corruption: see
// shared/doc/02-sum.md.
package sum

import "hourglass/api"

// polynomial is that of IEEE 802.3, the lowest bit first.
const polynomial = 0xedb88320

// initial is the state of a sum before its first byte.
const initial uint32 = 0xffffffff

// size is the number of bytes of a stored sum.
const size = 4

// Table has, for each byte, the state that it leads to from the state 0.
type Table [256]uint32

func Make() Table {
	var t Table
	for i := range t {
		t[i] = Step(0, byte(i))
	}
	return t
}

func (t Table) Sum(parts ...[]byte) uint32 {
	state := initial
	for _, p := range parts {
		for _, b := range p {
			state = t[byte(state)^b] ^ state>>8
		}
	}
	return ^state
}

func (t Table) Seal(p []byte) []byte {
	sealed := make([]byte, 0, len(p)+size)
	sealed = append(sealed, p...)
	s := t.Sum(p)
	for i := range size {
		sealed = append(sealed, byte(s>>(8*i)))
	}
	return sealed
}

func (t Table) Open(p []byte) ([]byte, api.Errno) {
	if len(p) < size {
		return nil, api.ErrForm
	}
	body, end := p[:len(p)-size], p[len(p)-size:]
	var s uint32
	for i := range size {
		s |= uint32(end[i]) << (8 * i)
	}
	if s != t.Sum(body) {
		return nil, api.ErrCorrupt
	}
	opened := make([]byte, len(body))
	copy(opened, body)
	return opened, api.OK
}

// Step needs no table, so that Make can derive the table from it.
func Step(sum uint32, b byte) uint32 {
	sum ^= uint32(b)
	for range 8 {
		low := sum & 1
		sum >>= 1
		if low == 1 {
			sum ^= polynomial
		}
	}
	return sum
}
