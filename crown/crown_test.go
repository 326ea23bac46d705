package crown_test

import (
	"bytes"
	"math"
	"slices"
	"testing"

	"hourglass/api"
	"hourglass/crown"
	"hourglass/disk"
	"hourglass/page"
	"hourglass/sum"
	"hourglass/trial"
)

func newDisk(t *testing.T, sectors int) *disk.Disk {
	t.Helper()
	d, e := disk.New(sectors)
	if e != api.OK {
		t.Fatalf("New(%d): error %d", sectors, e)
	}
	return d
}

// put makes a sector's new contents durable.
func put(t *testing.T, d *disk.Disk, i int, p []byte) {
	t.Helper()
	if e := d.Write(i, p); e != api.OK {
		t.Fatalf("Write(%d): error %d", i, e)
	}
	if e := d.Sync(); e != api.OK {
		t.Fatalf("Sync: error %d", e)
	}
}

func crash(t *testing.T, d *disk.Disk, keep ...bool) *disk.Disk {
	t.Helper()
	c, e := d.Crash(keep...)
	if e != api.OK {
		t.Fatalf("Crash: error %d", e)
	}
	return c
}

func sectorOf(t *testing.T, d *disk.Disk, i int) []byte {
	t.Helper()
	b, e := d.Read(i)
	if e != api.OK {
		t.Fatalf("Read(%d): error %d", i, e)
	}
	return b
}

func bytesOf(t *testing.T, p page.Page) []byte {
	t.Helper()
	b, e := p.Bytes()
	if e != api.OK {
		t.Fatalf("Bytes of %v: error %d", p, e)
	}
	return b
}

// stored is the sector of a crown as the document describes it.
func stored(t *testing.T, c crown.Crown) []byte {
	t.Helper()
	return bytesOf(t, page.Page{Gen: c.Gen, Serial: c.Serial, Number: 0, Kind: 9, Data: []byte{c.Half}})
}

func wantErrno(t *testing.T, what string, got, want api.Errno) {
	t.Helper()
	if got != want {
		t.Fatalf("%s: error %d, want %d", what, got, want)
	}
}

func wantCrown(t *testing.T, d *disk.Disk, want crown.Crown) {
	t.Helper()
	c, i, e := crown.Read(d)
	if e != api.OK || i != 0 || c != want {
		t.Fatalf("Read: %v, %d, error %d, want %v", c, i, e, want)
	}
}

func wantNoCrown(t *testing.T, d *disk.Disk, sector int, want api.Errno) {
	t.Helper()
	c, i, e := crown.Read(d)
	if e != want || i != sector || c != (crown.Crown{}) {
		t.Fatalf("Read: %v, %d, error %d, want %d, error %d", c, i, e, sector, want)
	}
}

func write(t *testing.T, d *disk.Disk, c crown.Crown) {
	t.Helper()
	wantErrno(t, "Write", crown.Write(d, c), api.OK)
}

func format(t *testing.T, d *disk.Disk) {
	t.Helper()
	wantErrno(t, "Format", crown.Format(d), api.OK)
}

// filled is what no crown's sector has.
func filled(b byte) []byte { return bytes.Repeat([]byte{b}, api.Sector) }

func TestFirstAndNext(t *testing.T) {
	c := crown.First()
	if c != (crown.Crown{Gen: 1, Half: 0, Serial: 0}) {
		t.Fatal(c)
	}
	for k := range uint32(5) {
		if c != (crown.Crown{Gen: 1 + k, Half: byte(k % 2), Serial: k}) {
			t.Fatal(k, c)
		}
		before := c
		c = before.Next()
		if before != (crown.Crown{Gen: 1 + k, Half: byte(k % 2), Serial: k}) {
			t.Fatal("Next changes its crown")
		}
	}
	cases := [][2]crown.Crown{
		{{Gen: 7, Half: 0, Serial: 100}, {Gen: 8, Half: 1, Serial: 101}},
		{{Gen: 7, Half: 1, Serial: 1 << 31}, {Gen: 8, Half: 0, Serial: 1<<31 + 1}},
		{{Gen: math.MaxUint32, Half: 1, Serial: math.MaxUint32}, {}},
		{{Gen: math.MaxUint32, Half: 0, Serial: 4}, {Gen: 0, Half: 1, Serial: 5}},
	}
	for _, c := range cases {
		if got := c[0].Next(); got != c[1] {
			t.Fatalf("Next of %v: %v, want %v", c[0], got, c[1])
		}
	}
}

func TestFrom(t *testing.T) {
	cases := []struct{ sectors, first0, first1, count int }{
		{math.MinInt, 0, 0, 0}, {-4, 0, 0, 0}, {-1, 0, 0, 0},
		{0, 0, 0, 0}, {1, 0, 0, 0}, {2, 0, 0, 0}, {3, 0, 0, 0},
		{4, 2, 3, 1}, {5, 2, 3, 1}, {6, 2, 4, 2}, {7, 2, 4, 2}, {8, 2, 5, 3},
		{64, 2, 33, 31}, {65, 2, 33, 31},
		{api.MaxSectors, 2, 2049, 2047}, {api.MaxSectors - 1, 2, 2048, 2046},
		{math.MaxInt, 2, 2 + (math.MaxInt-2)/2, (math.MaxInt - 2) / 2},
	}
	for _, c := range cases {
		for half, want := range []int{c.first0, c.first1} {
			// Gen and Serial are without influence.
			for _, k := range []crown.Crown{{Half: byte(half)}, {Gen: 9, Half: byte(half), Serial: 77}} {
				if first, n := k.From(c.sectors); first != want || n != c.count {
					t.Fatalf("%v, %d sectors: %d, %d, want %d, %d", k, c.sectors, first, n, want, c.count)
				}
			}
		}
	}
	if first, n := (crown.Crown{Half: 2}).From(8); first != 0 || n != 0 {
		t.Fatal("there is no half 2", first, n)
	}
}

func TestHalvesLieBesideEachOther(t *testing.T) {
	for n := 4; n <= 300; n++ {
		a, size := crown.Crown{Half: 0}.From(n)
		b, other := crown.Crown{Half: 1}.From(n)
		if a != 2 || b != a+size || other != size || b+size > n || b+size < n-1 {
			t.Fatal(n, a, size, b, other)
		}
	}
}

func TestExample(t *testing.T) {
	d := newDisk(t, 8)
	format(t, d)
	wantCrown(t, d, crown.Crown{Gen: 1})
	write(t, d, crown.First().Next())
	wantCrown(t, d, crown.Crown{Gen: 2, Half: 1, Serial: 1})
}

func crowns() []crown.Crown {
	return []crown.Crown{
		crown.First(),
		crown.First().Next(),
		{},
		{Gen: 6, Half: 0, Serial: 5},
		{Gen: 7, Half: 1, Serial: 0x01020304},
		{Gen: 0xfffffffe, Half: 1},
		{Gen: math.MaxUint32, Half: 0, Serial: math.MaxUint32},
	}
}

func TestWriteStoresTheCrownInItsSector(t *testing.T) {
	for _, c := range crowns() {
		d := newDisk(t, 9)
		for i := range 9 {
			put(t, d, i, filled(byte(i)))
		}
		write(t, d, c)
		for i := range 9 {
			want := filled(byte(i))
			if i == int(c.Gen%2) {
				want = stored(t, c)
			}
			if !bytes.Equal(sectorOf(t, crash(t, d), i), want) {
				t.Fatalf("%v: sector %d has other bytes", c, i)
			}
		}
		if d.Writes() != 10 {
			t.Fatal(d.Writes())
		}
	}
}

func TestReadReturnsWhatWasWritten(t *testing.T) {
	for _, c := range crowns() {
		d := newDisk(t, 4)
		write(t, d, c)
		wantCrown(t, d, c)
		wantCrown(t, crash(t, d), c)
		wantCrown(t, d.Copy(), c)
	}
}

func TestReadReturnsTheGreaterGen(t *testing.T) {
	cases := [][2]uint32{{1, 2}, {2, 3}, {2, 1}, {0, 1}, {1, 100}, {100, 1}, {0, math.MaxUint32}, {0x80000000, 0x7fffffff}, {0xff, 0x100}}
	for _, g := range cases {
		a := crown.Crown{Gen: g[0], Half: 1, Serial: 9}
		b := crown.Crown{Gen: g[1], Half: 0, Serial: 4}
		want := a
		if b.Gen > a.Gen {
			want = b
		}
		d := newDisk(t, 6)
		write(t, d, a)
		write(t, d, b)
		wantCrown(t, d, want)
	}
}

func TestReadSeesPendingWritesAndChangesNothing(t *testing.T) {
	d := newDisk(t, 6)
	format(t, d)
	next := crown.First().Next()
	if e := d.Write(0, stored(t, next)); e != api.OK {
		t.Fatal(e)
	}
	d.Limit(0)
	writes := d.Writes()
	for range 3 {
		wantCrown(t, d, next)
	}
	if d.Writes() != writes || !slices.Equal(d.Waiting(), []int{0}) {
		t.Fatal("Read writes")
	}
	wantCrown(t, crash(t, d), crown.First())
}

func TestReadWithoutACrown(t *testing.T) {
	wantNoCrown(t, nil, 0, api.ErrNone)
	for _, n := range []int{1, 2, 3, 4, 5, api.MaxSectors} {
		wantNoCrown(t, newDisk(t, n), 0, api.ErrNone)
	}
	d := newDisk(t, 4)
	put(t, d, 2, stored(t, crown.Crown{Gen: 2}))
	put(t, d, 3, stored(t, crown.Crown{Gen: 3}))
	wantNoCrown(t, d, 0, api.ErrNone)
}

func TestReadOfASmallDisk(t *testing.T) {
	for n := 1; n < 4; n++ {
		d := newDisk(t, n)
		write(t, d, crown.Crown{Gen: 2})
		wantNoCrown(t, d, 0, api.ErrNone)
		put(t, d, 0, filled(1)) // of several errors the one with the smallest number
		wantNoCrown(t, d, 0, api.ErrNone)
	}
}

// strangers are sectors that hold no crown, or not the one of sector at.
func strangers(t *testing.T, at int) map[string][]byte {
	gen := uint32(at) + 10
	broken := stored(t, crown.Crown{Gen: gen})
	broken[400] ^= 4
	formless := sum.Make().Seal(make([]byte, api.Sector-4))
	return map[string][]byte{
		"no page":      filled(0xa5),
		"one byte":     append([]byte{1}, filled(0)[1:]...),
		"a sum only":   formless,
		"a broken sum": broken,
		"kind 1":       bytesOf(t, page.Page{Gen: gen, Kind: 1, Data: []byte{0}}),
		"kind 8":       bytesOf(t, page.Page{Gen: gen, Kind: 8, Data: []byte{0}}),
		"kind 10":      bytesOf(t, page.Page{Gen: gen, Kind: 10, Data: []byte{0}}),
		"number 1":     bytesOf(t, page.Page{Gen: gen, Number: 1, Kind: 9, Data: []byte{0}}),
		"number max":   bytesOf(t, page.Page{Gen: gen, Number: math.MaxUint32, Kind: 9, Data: []byte{0}}),
		"no half":      bytesOf(t, page.Page{Gen: gen, Kind: 9}),
		"two bytes":    bytesOf(t, page.Page{Gen: gen, Kind: 9, Data: []byte{0, 0}}),
		"full":         bytesOf(t, page.Page{Gen: gen, Kind: 9, Data: make([]byte, page.Room)}),
		"half 2":       bytesOf(t, page.Page{Gen: gen, Kind: 9, Data: []byte{2}}),
		"half 255":     bytesOf(t, page.Page{Gen: gen, Kind: 9, Data: []byte{255}}),
		"elsewhere":    stored(t, crown.Crown{Gen: gen + 1}),
	}
}

func TestReadOfStrangers(t *testing.T) {
	for at := range 2 {
		for name, b := range strangers(t, at) {
			t.Run(name, func(t *testing.T) {
				d := newDisk(t, 4)
				put(t, d, at, b)
				wantNoCrown(t, d, at, api.ErrCorrupt)
				// It matters beside a crown too, whichever is newer.
				for _, gen := range []uint32{uint32(1 - at), 101 - uint32(at)} {
					write(t, d, crown.Crown{Gen: gen})
					wantNoCrown(t, d, at, api.ErrCorrupt)
				}
				put(t, d, 1-at, filled(0xa5))
				wantNoCrown(t, d, 0, api.ErrCorrupt)
				put(t, d, at, stored(t, crown.Crown{Gen: uint32(at)}))
				wantNoCrown(t, d, 1-at, api.ErrCorrupt)
				put(t, d, 1-at, filled(0))
				wantCrown(t, d, crown.Crown{Gen: uint32(at)})
			})
		}
	}
}

func TestReadFindsBursts(t *testing.T) {
	d := newDisk(t, 4)
	format(t, d)
	write(t, d, crown.First().Next())
	for at := range 2 {
		for bit := 0; bit < 8*api.Sector; bit += 3 {
			for _, mask := range []uint32{1, 0x80000001, 0xffffffff} {
				length := min(32, 8*api.Sector-bit)
				c := d.Copy()
				wantErrno(t, "Rot", c.Rot(at, bit, length, mask), api.OK)
				wantNoCrown(t, c, at, api.ErrCorrupt)
			}
		}
	}
}

func TestWriteRefuses(t *testing.T) {
	for _, half := range []byte{2, 3, 128, 255} {
		d := newDisk(t, 5)
		if e := d.Write(3, filled(3)); e != api.OK {
			t.Fatal(e)
		}
		wantErrno(t, "Write", crown.Write(d, crown.Crown{Gen: 1, Half: half}), api.ErrArg)
		if !slices.Equal(d.Waiting(), []int{3}) || d.Writes() != 1 || !d.Blank(0) || !d.Blank(1) {
			t.Fatal("a refused Write has an effect")
		}
		d.Limit(0)
		wantErrno(t, "Write", crown.Write(d, crown.Crown{Gen: 1, Half: half}), api.ErrArg)
		wantErrno(t, "Write to nil", crown.Write(nil, crown.Crown{Half: half}), api.ErrArg)
	}
	wantErrno(t, "Write to nil", crown.Write(nil, crown.First()), api.ErrNone)
	wantErrno(t, "Write to sector 1 of 1", crown.Write(newDisk(t, 1), crown.First()), api.ErrIndex)
	wantErrno(t, "Write to sector 0 of 1", crown.Write(newDisk(t, 1), crown.First().Next()), api.OK)
	wantErrno(t, "Write to sector 1 of 2", crown.Write(newDisk(t, 2), crown.First()), api.OK)
}

// A Write is a Sync, a Write of the disk, and a Sync.
func TestWriteSyncsBeforeAndAfter(t *testing.T) {
	for limit := range 4 {
		d := newDisk(t, 6)
		format(t, d)
		if e := d.Write(4, filled(4)); e != api.OK {
			t.Fatal(e)
		}
		d.Limit(limit)
		want := api.ErrOff
		if limit == 3 {
			want = api.OK
		}
		wantErrno(t, "Write", crown.Write(d, crown.First().Next()), want)
		waiting := [][]int{{4}, nil, {0}, nil}[limit]
		if !slices.Equal(d.Waiting(), waiting) {
			t.Fatalf("limit %d: %v are pending, want %v", limit, d.Waiting(), waiting)
		}
		if limit > 0 && !bytes.Equal(sectorOf(t, crash(t, d), 4), filled(4)) {
			t.Fatal("what was pending is not durable")
		}
	}
}

func TestCrashOfAWrite(t *testing.T) {
	d := newDisk(t, 6)
	format(t, d)
	previous := crown.First()
	for range 6 {
		next := previous.Next()
		for limit := range 4 {
			c := d.Copy()
			for i := 2; i < 5; i++ { // the log, which is not yet synced
				if e := c.Write(i, filled(byte(i))); e != api.OK {
					t.Fatal(e)
				}
			}
			c.Limit(limit)
			done := crown.Write(c, next) == api.OK
			survivors := map[crown.Crown]int{}
			for _, keep := range trial.Subsets(len(c.Waiting())) {
				s := crash(t, c, keep...)
				got, i, e := crown.Read(s)
				if e != api.OK || i != 0 || (got != previous && got != next) || (done && got != next) {
					t.Fatalf("limit %d: %v, %d, error %d", limit, got, i, e)
				}
				if got == next && (s.Blank(2) || s.Blank(3) || s.Blank(4)) {
					t.Fatal("the new crown is there without the log")
				}
				survivors[got]++
			}
			if want := []int{1, 1, 2, 1}[limit]; len(survivors) != want {
				t.Fatalf("limit %d: %v survive", limit, survivors)
			}
		}
		write(t, d, next)
		previous = next
	}
}

func TestFormat(t *testing.T) {
	cases := []struct {
		name   string
		fill   map[int][]byte
		writes int
	}{
		{"blank", nil, 1},
		{"garbage in 0", map[int][]byte{0: filled(1)}, 2},
		{"garbage in 1", map[int][]byte{1: filled(1)}, 2},
		{"garbage in both", map[int][]byte{0: filled(1), 1: filled(2)}, 3},
		{"greater crowns", map[int][]byte{0: stored(t, crown.Crown{Gen: 8}), 1: stored(t, crown.Crown{Gen: 9})}, 3},
		{"a log", map[int][]byte{2: filled(3), 3: filled(4), 4: filled(5)}, 1},
	}
	for _, c := range cases {
		t.Run(c.name, func(t *testing.T) {
			d := newDisk(t, 5)
			for i, b := range c.fill {
				put(t, d, i, b)
			}
			before := d.Copy()
			format(t, d)
			if got := d.Writes() - len(c.fill); got != c.writes {
				t.Fatalf("%d writes, want %d", got, c.writes)
			}
			if len(d.Waiting()) != 0 || !d.Blank(0) || !bytes.Equal(sectorOf(t, d, 1), stored(t, crown.First())) {
				t.Fatal("sectors 0 and 1")
			}
			wantCrown(t, crash(t, d), crown.First())
			for i := 2; i < 5; i++ {
				if !bytes.Equal(sectorOf(t, d, i), sectorOf(t, before, i)) {
					t.Fatalf("Format changes sector %d", i)
				}
			}
		})
	}
}

func TestFormatAgain(t *testing.T) {
	d := newDisk(t, 4)
	format(t, d)
	write(t, d, crown.First().Next())
	write(t, d, crown.First().Next().Next())
	format(t, d)
	wantCrown(t, d, crown.First())
	if !d.Blank(0) {
		t.Fatal("an old crown is left")
	}
}

func TestFormatRefuses(t *testing.T) {
	wantErrno(t, "Format of nil", crown.Format(nil), api.ErrNone)
	for n := 1; n < 4; n++ {
		d := newDisk(t, n)
		if e := d.Write(0, filled(1)); e != api.OK {
			t.Fatal(e)
		}
		wantErrno(t, "Format", crown.Format(d), api.ErrArg)
		d.Limit(0)
		wantErrno(t, "Format", crown.Format(d), api.ErrArg)
		if !slices.Equal(d.Waiting(), []int{0}) || d.Writes() != 1 || d.Blank(0) {
			t.Fatal("a refused Format has an effect")
		}
	}
	d := newDisk(t, 4)
	d.Limit(0)
	wantErrno(t, "Format", crown.Format(d), api.ErrOff)
}

// Format's zero bytes are durable before the first crown is written: no older
// crown, whose Gen is greater, can survive beside it.
func TestCrashOfAFormat(t *testing.T) {
	const enough = 6
	for limit := range enough + 1 {
		d := newDisk(t, 4)
		put(t, d, 0, stored(t, crown.Crown{Gen: 8}))
		put(t, d, 1, stored(t, crown.Crown{Gen: 7}))
		d.Limit(limit)
		want := api.ErrOff
		if limit == enough {
			want = api.OK
		}
		wantErrno(t, "Format", crown.Format(d), want)
		for _, keep := range trial.Subsets(len(d.Waiting())) {
			s := crash(t, d, keep...)
			first := bytes.Equal(sectorOf(t, s, 1), stored(t, crown.First()))
			if first && !s.Blank(0) {
				t.Fatalf("limit %d: an old crown survives beside the first one", limit)
			}
			if limit == enough && !first {
				t.Fatal("the first crown is lost")
			}
		}
	}
}

func TestSameResultAgain(t *testing.T) {
	one, other := newDisk(t, 7), newDisk(t, 7)
	format(t, one)
	format(t, other)
	c := crown.First()
	for range 5 {
		c = c.Next()
		write(t, one, c)
		write(t, other, c)
		for i := range 7 {
			if !bytes.Equal(sectorOf(t, one, i), sectorOf(t, other, i)) {
				t.Fatal(c, i)
			}
		}
		wantCrown(t, one, c)
		wantCrown(t, other, c)
	}
}
