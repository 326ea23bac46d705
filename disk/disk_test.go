package disk_test

import (
	"bytes"
	"math"
	"slices"
	"testing"

	"hourglass/api"
	"hourglass/disk"
)

const lastBit = 8*api.Sector - 1

func filled(b byte) []byte { return bytes.Repeat([]byte{b}, api.Sector) }

func newDisk(t *testing.T, sectors int) *disk.Disk {
	t.Helper()
	d, e := disk.New(sectors)
	if e != api.OK || d == nil {
		t.Fatalf("New(%d): %v, error %d", sectors, d, e)
	}
	return d
}

func put(t *testing.T, d *disk.Disk, i int, p []byte) {
	t.Helper()
	if e := d.Write(i, p); e != api.OK {
		t.Fatalf("Write(%d): error %d", i, e)
	}
}

func sync(t *testing.T, d *disk.Disk) {
	t.Helper()
	if e := d.Sync(); e != api.OK {
		t.Fatalf("Sync: error %d", e)
	}
}

func crash(t *testing.T, d *disk.Disk, keep ...bool) *disk.Disk {
	t.Helper()
	c, e := d.Crash(keep...)
	if e != api.OK || c == nil {
		t.Fatalf("Crash(%v): %v, error %d", keep, c, e)
	}
	return c
}

func rot(t *testing.T, d *disk.Disk, i, bit, length int, mask uint32) {
	t.Helper()
	if e := d.Rot(i, bit, length, mask); e != api.OK {
		t.Fatalf("Rot(%d, %d, %d, %x): error %d", i, bit, length, mask, e)
	}
}

func sectorOf(t *testing.T, d *disk.Disk, i int) []byte {
	t.Helper()
	p, e := d.Read(i)
	if e != api.OK || len(p) != api.Sector {
		t.Fatalf("Read(%d): %d bytes, error %d", i, len(p), e)
	}
	return p
}

func wantSector(t *testing.T, d *disk.Disk, i int, want []byte) {
	t.Helper()
	for k, b := range sectorOf(t, d, i) {
		if b != want[k] {
			t.Fatalf("sector %d has %x at %d, want %x", i, b, k, want[k])
		}
	}
}

func wantErrno(t *testing.T, what string, got, want api.Errno) {
	t.Helper()
	if got != want {
		t.Fatalf("%s: error %d, want %d", what, got, want)
	}
}

func TestNew(t *testing.T) {
	for _, n := range []int{1, 2, 400, api.MaxSectors} {
		d := newDisk(t, n)
		if d.Sectors() != n || len(d.Waiting()) != 0 || d.Writes() != 0 {
			t.Fatal(n, d.Sectors(), d.Waiting(), d.Writes())
		}
		wantSector(t, d, 0, filled(0))
		wantSector(t, d, n-1, filled(0))
	}
	for _, n := range []int{0, -1, math.MinInt, api.MaxSectors + 1, math.MaxInt} {
		d, e := disk.New(n)
		wantErrno(t, "New", e, api.ErrArg)
		if d != nil {
			t.Fatalf("New(%d) returns a disk beside its error", n)
		}
	}
}

func TestReadReturnsTheLastWrite(t *testing.T) {
	d := newDisk(t, 4)
	put(t, d, 2, filled(7))
	put(t, d, 1, filled(8))
	put(t, d, 2, filled(9))
	for range 2 {
		wantSector(t, d, 0, filled(0))
		wantSector(t, d, 1, filled(8))
		wantSector(t, d, 2, filled(9))
		wantSector(t, d, 3, filled(0))
		sync(t, d)
	}
	put(t, d, 2, filled(0))
	wantSector(t, d, 2, filled(0))
}

func TestWriteTakesEachByteInItsPlace(t *testing.T) {
	d := newDisk(t, 2)
	p := make([]byte, api.Sector)
	for i := range p {
		p[i] = byte(i*7 + i/256)
	}
	put(t, d, 1, p)
	wantSector(t, d, 1, p)
	sync(t, d)
	wantSector(t, d, 1, p)
	wantSector(t, d, 0, filled(0))
}

func TestNoSuchSector(t *testing.T) {
	d := newDisk(t, 3)
	for _, i := range []int{-1, 3, math.MinInt, math.MaxInt} {
		p, e := d.Read(i)
		wantErrno(t, "Read", e, api.ErrIndex)
		if p != nil {
			t.Fatal("Read returns bytes beside its error")
		}
		wantErrno(t, "Write", d.Write(i, filled(1)), api.ErrIndex)
		wantErrno(t, "Rot", d.Rot(i, 0, 1, 1), api.ErrIndex)
		if d.Blank(i) {
			t.Fatalf("Blank(%d) of no sector", i)
		}
	}
	if len(d.Waiting()) != 0 || d.Writes() != 0 {
		t.Fatal("a refused Write has an effect")
	}
}

func TestWriteOfAnotherLength(t *testing.T) {
	d := newDisk(t, 3)
	put(t, d, 1, filled(5))
	for _, n := range []int{0, 1, api.Sector - 1, api.Sector + 1, 2 * api.Sector} {
		for _, i := range []int{1, 3, -1} {
			wantErrno(t, "Write", d.Write(i, make([]byte, n)), api.ErrArg)
		}
	}
	wantErrno(t, "Write of nil", d.Write(1, nil), api.ErrArg)
	wantSector(t, d, 1, filled(5))
	if len(d.Waiting()) != 1 || d.Writes() != 1 {
		t.Fatal("a refused Write has an effect")
	}
}

func TestWaitingIsInOrder(t *testing.T) {
	d := newDisk(t, 9)
	want := []int{5, 3, 8, 3, 0, 5}
	for k, i := range want {
		put(t, d, i, filled(byte(k)))
	}
	if got := d.Waiting(); !slices.Equal(got, want) {
		t.Fatal(got)
	}
	sync(t, d)
	if got := d.Waiting(); len(got) != 0 {
		t.Fatal(got)
	}
	put(t, d, 4, filled(1))
	if got := d.Waiting(); !slices.Equal(got, []int{4}) {
		t.Fatal(got)
	}
}

func TestSyncMakesWritesDurableInOrder(t *testing.T) {
	d := newDisk(t, 3)
	put(t, d, 1, filled(1))
	put(t, d, 2, filled(2))
	put(t, d, 1, filled(3))
	sync(t, d)
	c := crash(t, d)
	wantSector(t, c, 0, filled(0))
	wantSector(t, c, 1, filled(3))
	wantSector(t, c, 2, filled(2))
}

func TestCrashExample(t *testing.T) {
	d := newDisk(t, 8)
	put(t, d, 3, filled(1))
	put(t, d, 5, filled(2))
	c := crash(t, d, false, true)
	for i := range 8 {
		if c.Blank(i) != (i != 5) {
			t.Fatal(i)
		}
	}
	wantSector(t, c, 5, filled(2))
}

func TestCrashKeepsAnySubset(t *testing.T) {
	d := newDisk(t, 3)
	put(t, d, 0, filled(1))
	put(t, d, 1, filled(2))
	sync(t, d)
	writes := []struct {
		at int
		b  byte
	}{{1, 3}, {2, 4}, {1, 5}, {0, 6}}
	for _, w := range writes {
		put(t, d, w.at, filled(w.b))
	}
	for bits := range 1 << 6 {
		for given := range 7 { // fewer and more than there are writes
			keep := make([]bool, given)
			want := [3]byte{1, 2, 0}
			for k := range keep {
				keep[k] = bits>>k&1 == 1
				if keep[k] && k < len(writes) {
					want[writes[k].at] = writes[k].b
				}
			}
			c := crash(t, d, keep...)
			for i, b := range want {
				wantSector(t, c, i, filled(b))
			}
			if c.Sectors() != 3 || len(c.Waiting()) != 0 || c.Writes() != 0 {
				t.Fatal(c.Sectors(), c.Waiting(), c.Writes())
			}
		}
	}
	if !slices.Equal(d.Waiting(), []int{1, 2, 1, 0}) || d.Writes() != 6 {
		t.Fatal("Crash changes the disk")
	}
	wantSector(t, d, 1, filled(5))
}

func TestCrashIsAnotherDisk(t *testing.T) {
	d := newDisk(t, 2)
	put(t, d, 0, filled(1))
	c := crash(t, d, true)
	put(t, c, 0, filled(2))
	rot(t, c, 1, 0, 8, 0xff)
	sync(t, c)
	wantSector(t, d, 0, filled(1))
	wantSector(t, d, 1, filled(0))
	put(t, d, 1, filled(3))
	sync(t, d)
	wantSector(t, c, 0, filled(2))
	wantSector(t, c, 1, append([]byte{0xff}, filled(0)[1:]...))
	// What was kept is durable, not pending.
	wantSector(t, crash(t, crash(t, newWith(t, 0, filled(9)), true)), 0, filled(9))
}

// newWith is a disk with one pending write.
func newWith(t *testing.T, i int, p []byte) *disk.Disk {
	t.Helper()
	d := newDisk(t, i+1)
	put(t, d, i, p)
	return d
}

// flipped inverts bits as the document says, one after the other.
func flipped(p []byte, bit, length int, mask uint32) []byte {
	q := bytes.Clone(p)
	for k := 0; k < length; k++ {
		if mask&(1<<k) != 0 {
			q[(bit+k)/8] ^= byte(1 << ((bit + k) % 8))
		}
	}
	return q
}

func TestRotInvertsTheBits(t *testing.T) {
	masks := []uint32{0, 1, 2, 5, 0x80000000, 0xdeadbeef, 0xffffffff}
	for _, length := range []int{0, 1, 3, 8, 9, 31, 32} {
		for _, bit := range []int{0, 1, 7, 8, 9, 100, lastBit + 1 - length - 1, lastBit + 1 - length} {
			for _, mask := range masks {
				if bit+length > lastBit+1 {
					continue
				}
				d := newWith(t, 1, filled(0x5a))
				sync(t, d)
				rot(t, d, 1, bit, length, mask)
				wantSector(t, d, 1, flipped(filled(0x5a), bit, length, mask))
				wantSector(t, d, 0, filled(0))
			}
		}
	}
}

func TestRotByHand(t *testing.T) {
	d := newDisk(t, 1)
	rot(t, d, 0, 0, 1, 1)
	rot(t, d, 0, 15, 1, 1)
	rot(t, d, 0, 20, 8, 0xff)
	rot(t, d, 0, lastBit, 1, 0xffffffff)
	want := filled(0)
	want[0], want[1], want[2], want[3], want[api.Sector-1] = 0x01, 0x80, 0xf0, 0x0f, 0x80
	wantSector(t, d, 0, want)
	rot(t, d, 0, 20, 8, 0xff)
	want[2], want[3] = 0, 0
	wantSector(t, d, 0, want)
}

func TestRotReachesDurableAndPending(t *testing.T) {
	d := newDisk(t, 2)
	put(t, d, 0, filled(1))
	sync(t, d)
	put(t, d, 0, filled(2))
	put(t, d, 1, filled(3))
	put(t, d, 0, filled(4))
	rot(t, d, 0, 0, 8, 0x80)
	broken := func(b byte) []byte { return flipped(filled(b), 0, 8, 0x80) }
	wantSector(t, d, 0, broken(4))
	wantSector(t, crash(t, d), 0, broken(1))
	wantSector(t, crash(t, d, true), 0, broken(2))
	wantSector(t, crash(t, d, true, true, true), 0, broken(4))
	wantSector(t, crash(t, d, true, true, true), 1, filled(3))
	if !slices.Equal(d.Waiting(), []int{0, 1, 0}) || d.Writes() != 4 {
		t.Fatal("Rot is no Write")
	}
	sync(t, d)
	wantSector(t, d, 0, broken(4))
	put(t, d, 0, filled(6))
	wantSector(t, d, 0, filled(6))
}

func TestRotRefuses(t *testing.T) {
	d := newWith(t, 1, filled(1))
	cases := []struct{ bit, length int }{
		{0, -1}, {0, 33}, {0, math.MinInt}, {0, math.MaxInt},
		{-1, 0}, {-1, 1}, {math.MinInt, 32}, {math.MinInt, 0},
		{lastBit + 1, 1}, {lastBit + 2, 0}, {lastBit, 2}, {lastBit + 1 - 31, 32},
		{math.MaxInt, 0}, {math.MaxInt, 1}, {math.MaxInt, 32}, {math.MaxInt, math.MaxInt},
	}
	for _, c := range cases {
		for _, i := range []int{0, 1, 2, -1} {
			wantErrno(t, "Rot", d.Rot(i, c.bit, c.length, 0xffffffff), api.ErrArg)
		}
	}
	for _, i := range []int{-1, 2} {
		wantErrno(t, "Rot", d.Rot(i, lastBit+1, 0, 1), api.ErrIndex)
		wantErrno(t, "Rot", d.Rot(i, lastBit+1-32, 32, 1), api.ErrIndex)
	}
	wantErrno(t, "Rot of nothing at the end", d.Rot(0, lastBit+1, 0, 1), api.OK)
	wantSector(t, d, 0, filled(0))
	wantSector(t, d, 1, filled(1))
}

func TestWritesCountsWhatWasAccepted(t *testing.T) {
	d := newDisk(t, 2)
	put(t, d, 0, filled(1))
	put(t, d, 0, filled(1))
	sync(t, d)
	put(t, d, 1, filled(1))
	d.Write(2, filled(1))
	d.Write(0, nil)
	d.Limit(0)
	d.Write(0, filled(1))
	d.Sync()
	if d.Writes() != 3 {
		t.Fatal(d.Writes())
	}
	for _, c := range []*disk.Disk{d.Copy(), crash(t, d, true)} {
		if c.Writes() != 0 {
			t.Fatal(c.Writes())
		}
		put(t, c, 0, filled(1))
		if c.Writes() != 1 || d.Writes() != 3 {
			t.Fatal(c.Writes(), d.Writes())
		}
	}
}

func TestCopyIsIndependent(t *testing.T) {
	d := newDisk(t, 3)
	put(t, d, 0, filled(1))
	sync(t, d)
	put(t, d, 1, filled(2))
	c := d.Copy()
	if c.Sectors() != 3 || !slices.Equal(c.Waiting(), []int{1}) {
		t.Fatal(c.Sectors(), c.Waiting())
	}
	put(t, d, 1, filled(3))
	put(t, c, 2, filled(4))
	rot(t, d, 0, 0, 1, 1)
	rot(t, c, 1, 8, 1, 1)
	if !slices.Equal(d.Waiting(), []int{1, 1}) || !slices.Equal(c.Waiting(), []int{1, 2}) {
		t.Fatal(d.Waiting(), c.Waiting())
	}
	for range 2 {
		wantSector(t, d, 0, flipped(filled(1), 0, 1, 1))
		wantSector(t, d, 1, filled(3))
		wantSector(t, d, 2, filled(0))
		wantSector(t, c, 0, filled(1))
		wantSector(t, c, 1, flipped(filled(2), 8, 1, 1))
		wantSector(t, c, 2, filled(4))
		sync(t, d)
	}
	wantSector(t, crash(t, c), 1, flipped(filled(0), 8, 1, 1))
	wantSector(t, crash(t, c, true), 1, flipped(filled(2), 8, 1, 1))
}

func TestBlank(t *testing.T) {
	d := newDisk(t, 3)
	if !d.Blank(0) || !d.Blank(2) {
		t.Fatal("a new disk is not blank")
	}
	for _, at := range []int{0, 1, 255, api.Sector - 1} {
		p := filled(0)
		p[at] = 0x80
		put(t, d, 1, p)
		if d.Blank(1) || !d.Blank(0) {
			t.Fatal(at)
		}
	}
	sync(t, d)
	if d.Blank(1) {
		t.Fatal("written and synced, but blank")
	}
	put(t, d, 1, filled(0))
	if !d.Blank(1) {
		t.Fatal("zero bytes are pending, but not blank")
	}
	if crash(t, d).Blank(1) || !crash(t, d, true).Blank(1) {
		t.Fatal("Blank after a crash")
	}
	rot(t, d, 0, lastBit, 1, 1)
	if d.Blank(0) {
		t.Fatal("rotten, but blank")
	}
}

func TestLimitCountsWritesAndSyncs(t *testing.T) {
	d := newDisk(t, 3)
	d.Limit(3)
	put(t, d, 0, filled(1))
	sync(t, d)
	put(t, d, 1, filled(2))
	for range 3 {
		wantErrno(t, "Write", d.Write(2, filled(3)), api.ErrOff)
		wantErrno(t, "Sync", d.Sync(), api.ErrOff)
	}
	wantSector(t, d, 1, filled(2))
	wantSector(t, d, 2, filled(0))
	wantSector(t, crash(t, d), 1, filled(0))
	if !slices.Equal(d.Waiting(), []int{1}) || d.Writes() != 2 {
		t.Fatal(d.Waiting(), d.Writes())
	}
	d.Limit(1)
	sync(t, d)
	wantErrno(t, "Sync", d.Sync(), api.ErrOff)
	wantSector(t, crash(t, d), 1, filled(2))
}

func TestLimitAndOtherErrors(t *testing.T) {
	d := newDisk(t, 2)
	d.Limit(1)
	for range 3 {
		wantErrno(t, "Write", d.Write(0, nil), api.ErrArg)
		wantErrno(t, "Write", d.Write(2, filled(1)), api.ErrIndex)
	}
	put(t, d, 0, filled(1))
	wantErrno(t, "Write", d.Write(0, filled(1)), api.ErrOff)
	wantErrno(t, "Write", d.Write(0, nil), api.ErrArg)
	wantErrno(t, "Write", d.Write(2, nil), api.ErrArg)
	wantErrno(t, "Write", d.Write(2, filled(1)), api.ErrIndex)
}

func TestLimitLeavesTheRestAlone(t *testing.T) {
	d := newWith(t, 1, filled(1))
	d.Limit(0)
	rot(t, d, 1, 0, 1, 1)
	wantSector(t, d, 1, flipped(filled(1), 0, 1, 1))
	for _, c := range []*disk.Disk{d.Copy(), crash(t, d, true)} {
		for range 3 {
			put(t, c, 0, filled(2))
			sync(t, c)
		}
	}
	wantErrno(t, "Sync", d.Sync(), api.ErrOff)
	c := d.Copy()
	c.Limit(0)
	d.Limit(2)
	sync(t, d)
	put(t, d, 0, filled(3))
	wantErrno(t, "Sync", c.Sync(), api.ErrOff)
}

func TestNoLimit(t *testing.T) {
	for _, n := range []int{-1, -2, -100, math.MinInt, 100, math.MaxInt} {
		d := newDisk(t, 1)
		d.Limit(0)
		d.Limit(n)
		for range 50 {
			put(t, d, 0, filled(1))
			sync(t, d)
		}
	}
	d := newDisk(t, 1)
	for range 50 {
		put(t, d, 0, filled(1))
		sync(t, d)
	}
}

func TestNilDisk(t *testing.T) {
	var d *disk.Disk
	d.Limit(0)
	p, e := d.Read(0)
	wantErrno(t, "Read", e, api.ErrNone)
	c, e := d.Crash(true)
	wantErrno(t, "Crash", e, api.ErrNone)
	if p != nil || c != nil || d.Copy() != nil {
		t.Fatal(p, c, d.Copy())
	}
	_, e = d.Read(-1)
	wantErrno(t, "Read", e, api.ErrNone)
	wantErrno(t, "Write", d.Write(0, filled(1)), api.ErrNone)
	wantErrno(t, "Write", d.Write(-1, nil), api.ErrNone)
	wantErrno(t, "Sync", d.Sync(), api.ErrNone)
	wantErrno(t, "Rot", d.Rot(0, 0, 1, 1), api.ErrNone)
	wantErrno(t, "Rot", d.Rot(-1, -1, 99, 1), api.ErrNone)
	if d.Sectors() != 0 || len(d.Waiting()) != 0 || d.Writes() != 0 || d.Blank(0) || d.Blank(-1) {
		t.Fatal("a nil disk has something")
	}
}

func TestMemoryIsNotShared(t *testing.T) {
	d := newDisk(t, 2)
	backing := bytes.Repeat([]byte{7}, 2*api.Sector)
	put(t, d, 1, backing[:api.Sector])
	if !bytes.Equal(backing, bytes.Repeat([]byte{7}, 2*api.Sector)) {
		t.Fatal("Write changes its argument")
	}
	clear(backing)
	wantSector(t, d, 1, filled(7))
	for range 2 {
		p := sectorOf(t, d, 1)
		clear(p[:cap(p)])
		wantSector(t, d, 1, filled(7))
		wantSector(t, d, 0, filled(0))
		sync(t, d)
	}
	put(t, d, 0, filled(1))
	put(t, d, 1, filled(1))
	l := d.Waiting()
	clear(l[:cap(l)])
	if !slices.Equal(d.Waiting(), []int{0, 1}) {
		t.Fatal(d.Waiting())
	}
	keep := []bool{true, false, true}
	c := crash(t, d, keep[:1]...)
	if !slices.Equal(keep, []bool{true, false, true}) {
		t.Fatal("Crash changes its argument")
	}
	clear(keep)
	wantSector(t, c, 0, filled(1))
	wantSector(t, c, 1, filled(7))
}
