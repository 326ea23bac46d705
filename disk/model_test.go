package disk_test

import (
	"bytes"
	"math/rand"
	"slices"
	"testing"

	"hourglass/api"
	"hourglass/disk"
)

// model is a disk in the words of the document: nothing of it is clever.
type model struct {
	durable [][]byte
	at      []int
	data    [][]byte
	limit   int
}

func newModel(sectors int) *model {
	m := &model{limit: -1}
	for range sectors {
		m.durable = append(m.durable, filled(0))
	}
	return m
}

func (m *model) on() bool {
	if m.limit == 0 {
		return false
	}
	m.limit--
	return true
}

func (m *model) write(i int, p []byte) api.Errno {
	if i < 0 || i >= len(m.durable) {
		return api.ErrIndex
	}
	if !m.on() {
		return api.ErrOff
	}
	m.at = append(m.at, i)
	m.data = append(m.data, bytes.Clone(p))
	return api.OK
}

func (m *model) sync() api.Errno {
	if !m.on() {
		return api.ErrOff
	}
	keep := make([]bool, len(m.at))
	for k := range keep {
		keep[k] = true
	}
	limit := m.limit
	*m = *m.crash(keep)
	m.limit = limit
	return api.OK
}

func (m *model) crash(keep []bool) *model {
	c := &model{limit: -1}
	for _, p := range m.durable {
		c.durable = append(c.durable, bytes.Clone(p))
	}
	for k, i := range m.at {
		if k < len(keep) && keep[k] {
			c.durable[i] = bytes.Clone(m.data[k])
		}
	}
	return c
}

func (m *model) rot(i, bit, length int, mask uint32) {
	m.durable[i] = flipped(m.durable[i], bit, length, mask)
	for k := range m.at {
		if m.at[k] == i {
			m.data[k] = flipped(m.data[k], bit, length, mask)
		}
	}
}

func (m *model) read(i int) []byte {
	p := m.durable[i]
	for k := range m.at {
		if m.at[k] == i {
			p = m.data[k]
		}
	}
	return p
}

func agree(t *testing.T, d *disk.Disk, m *model) {
	t.Helper()
	if !slices.Equal(d.Waiting(), m.at) {
		t.Fatal(d.Waiting(), m.at)
	}
	for i := range m.durable {
		wantSector(t, d, i, m.read(i))
		if d.Blank(i) != bytes.Equal(m.read(i), filled(0)) {
			t.Fatal("Blank", i)
		}
	}
}

// TestLongHistories compares a disk, and a second one to which the same is
// done (P2), with the model.
func TestLongHistories(t *testing.T) {
	for seed := range int64(40) {
		const sectors = 5
		r := rand.New(rand.NewSource(seed))
		d, twin, m := newDisk(t, sectors), newDisk(t, sectors), newModel(sectors)
		for range 60 {
			switch r.Intn(12) {
			case 0:
				want := m.sync()
				wantErrno(t, "Sync", d.Sync(), want)
				wantErrno(t, "Sync", twin.Sync(), want)
			case 1:
				keep := make([]bool, r.Intn(len(m.at)+2))
				for k := range keep {
					keep[k] = r.Intn(2) == 0
				}
				d, twin, m = crash(t, d, keep...), crash(t, twin, keep...), m.crash(keep)
			case 2, 3:
				i, length, mask := r.Intn(sectors), r.Intn(33), r.Uint32()
				bit := r.Intn(8*api.Sector - length + 1)
				rot(t, d, i, bit, length, mask)
				rot(t, twin, i, bit, length, mask)
				m.rot(i, bit, length, mask)
			case 4:
				n := r.Intn(12) - 2
				d.Limit(n)
				twin.Limit(n)
				m.limit = n
			case 5:
				d.Limit(-1) // as in the copy
				m.limit = -1
				d, twin = d.Copy(), d
			default:
				i, p := r.Intn(sectors+1), filled(byte(r.Intn(3)))
				want := m.write(i, p)
				wantErrno(t, "Write", d.Write(i, p), want)
				wantErrno(t, "Write", twin.Write(i, p), want)
			}
			agree(t, d, m)
			agree(t, twin, m)
		}
	}
}
