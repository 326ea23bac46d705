// Package disk is layer 1, a disk whose writes are not durable until a sync:
// see shared/doc/01-disk.md.
package disk

import (
	"slices"

	"hourglass/api"
)

// unlimited is the budget of a disk that no Limit restricts; any other number
// below 0 means the same.
const unlimited = -1

const (
	sectorBits = 8 * api.Sector
	maskBits   = 32
)

type sector [api.Sector]byte

type write struct {
	at   int
	data sector
}

// Disk is sectors, and the writes to them that a crash may still lose.
type Disk struct {
	durable []sector
	pending []write
	// latest has, for each sector, one more than the index of its last
	// pending write (0 for none), so that Read need not search for it.
	latest []int
	writes int
	budget int
}

func New(sectors int) (*Disk, api.Errno) {
	if sectors < 1 || sectors > api.MaxSectors {
		return nil, api.ErrArg
	}
	return start(make([]sector, sectors)), api.OK
}

func start(durable []sector) *Disk {
	return &Disk{durable: durable, latest: make([]int, len(durable)), budget: unlimited}
}

func (d *Disk) Sectors() int {
	if d == nil {
		return 0
	}
	return len(d.durable)
}

func (d *Disk) has(i int) bool {
	return i >= 0 && i < len(d.durable)
}

func (d *Disk) current(i int) *sector {
	if last := d.latest[i]; last > 0 {
		return &d.pending[last-1].data
	}
	return &d.durable[i]
}

func (d *Disk) Read(i int) ([]byte, api.Errno) {
	if d == nil {
		return nil, api.ErrNone
	}
	if !d.has(i) {
		return nil, api.ErrIndex
	}
	p := make([]byte, api.Sector)
	copy(p, d.current(i)[:])
	return p, api.OK
}

func (d *Disk) Write(i int, p []byte) api.Errno {
	if d == nil {
		return api.ErrNone
	}
	if len(p) != api.Sector {
		return api.ErrArg
	}
	if !d.has(i) {
		return api.ErrIndex
	}
	if !d.spend() {
		return api.ErrOff
	}
	w := write{at: i}
	copy(w.data[:], p)
	d.pending = append(d.pending, w)
	d.latest[i] = len(d.pending)
	d.writes++
	return api.OK
}

// spend reports whether the limit allows one more Write or Sync.
func (d *Disk) spend() bool {
	if d.budget == 0 {
		return false
	}
	if d.budget > 0 {
		d.budget--
	}
	return true
}

func (d *Disk) Sync() api.Errno {
	if d == nil {
		return api.ErrNone
	}
	if !d.spend() {
		return api.ErrOff
	}
	for i := range d.pending {
		d.durable[d.pending[i].at] = d.pending[i].data
	}
	d.pending = nil
	clear(d.latest)
	return api.OK
}

func (d *Disk) Waiting() []int {
	if d == nil {
		return nil
	}
	l := make([]int, len(d.pending))
	for i := range d.pending {
		l[i] = d.pending[i].at
	}
	return l
}

func (d *Disk) Crash(keep ...bool) (*Disk, api.Errno) {
	if d == nil {
		return nil, api.ErrNone
	}
	c := start(slices.Clone(d.durable))
	for i := range min(len(keep), len(d.pending)) {
		if keep[i] {
			c.durable[d.pending[i].at] = d.pending[i].data
		}
	}
	return c, api.OK
}

// Rot inverts the bits wherever the disk holds the sector: whatever a sync
// or a crash leaves of it is corrupt.
func (d *Disk) Rot(i, bit, length int, mask uint32) api.Errno {
	if d == nil {
		return api.ErrNone
	}
	// Not bit+length > sectorBits, since that sum may wrap around.
	if length < 0 || length > maskBits || bit < 0 || bit > sectorBits-length {
		return api.ErrArg
	}
	if !d.has(i) {
		return api.ErrIndex
	}
	d.durable[i].invert(bit, length, mask)
	for k := range d.pending {
		if d.pending[k].at == i {
			d.pending[k].data.invert(bit, length, mask)
		}
	}
	return api.OK
}

func (s *sector) invert(bit, length int, mask uint32) {
	for k := range length {
		if mask>>k&1 == 1 {
			s[(bit+k)/8] ^= 1 << ((bit + k) % 8)
		}
	}
}

func (d *Disk) Writes() int {
	if d == nil {
		return 0
	}
	return d.writes
}

func (d *Disk) Copy() *Disk {
	if d == nil {
		return nil
	}
	c := start(slices.Clone(d.durable))
	c.pending = slices.Clone(d.pending)
	copy(c.latest, d.latest)
	return c
}

func (d *Disk) Blank(i int) bool {
	return d != nil && d.has(i) && *d.current(i) == sector{}
}

func (d *Disk) Limit(n int) {
	if d == nil {
		return
	}
	d.budget = n
}
