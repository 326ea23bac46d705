package reel_test

import (
	"bytes"
	"encoding/binary"
	"math"
	"slices"
	"testing"

	"hourglass/api"
	"hourglass/crown"
	"hourglass/disk"
	"hourglass/page"
	"hourglass/reel"
)

// share is how many bytes of a row a full page has.
const share = 512 - 2 - 4 - 4 - 4 - 1 - 2 - 4 - 4

func newDisk(t *testing.T, sectors int) *disk.Disk {
	t.Helper()
	d, e := disk.New(sectors)
	if e != api.OK {
		t.Fatalf("New(%d): error %d", sectors, e)
	}
	return d
}

func sectorOf(t *testing.T, d *disk.Disk, i int) []byte {
	t.Helper()
	b, e := d.Read(i)
	if e != api.OK {
		t.Fatalf("Read(%d): error %d", i, e)
	}
	return b
}

func bytesOf(t *testing.T, p page.Page) []byte {
	t.Helper()
	b, e := p.Bytes()
	if e != api.OK {
		t.Fatalf("Bytes of %v: error %d", p, e)
	}
	return b
}

// filled is what cannot be parsed.
func filled(b byte) []byte { return bytes.Repeat([]byte{b}, api.Sector) }

func put(t *testing.T, d *disk.Disk, i int, p []byte) {
	t.Helper()
	if e := d.Write(i, p); e != api.OK {
		t.Fatalf("Write(%d): error %d", i, e)
	}
}

func syncDisk(t *testing.T, d *disk.Disk) {
	t.Helper()
	wantErrno(t, "Sync", d.Sync(), api.OK)
}

func crash(t *testing.T, d *disk.Disk, keep ...bool) *disk.Disk {
	t.Helper()
	c, e := d.Crash(keep...)
	if e != api.OK {
		t.Fatalf("Crash: error %d", e)
	}
	return c
}

func wantErrno(t *testing.T, what string, got, want api.Errno) {
	t.Helper()
	if got != want {
		t.Fatalf("%s: error %d, want %d", what, got, want)
	}
}

// logPage is a page of a log as the document describes it: before is the
// Serial of the previous page.
func logPage(gen, serial, number, before uint32, part []byte) page.Page {
	return page.Page{Gen: gen, Serial: serial, Number: number, Kind: 1, Data: append(binary.BigEndian.AppendUint32(nil, before), part...)}
}

// logOf is the pages of a log whose pages have these Serials, as many as the
// row needs.
func logOf(gen uint32, row []byte, serials ...uint32) []page.Page {
	var pages []page.Page
	before := uint32(0)
	for i := 0; len(row) > 0; i++ {
		n := min(len(row), share)
		pages = append(pages, logPage(gen, serials[i], uint32(i), before, row[:n]))
		row, before = row[n:], serials[i]
	}
	return pages
}

func putLog(t *testing.T, d *disk.Disk, first int, pages []page.Page) {
	t.Helper()
	for i, p := range pages {
		put(t, d, first+i, bytesOf(t, p))
	}
	syncDisk(t, d)
}

func open(t *testing.T, d *disk.Disk, c crown.Crown) *reel.Reel {
	t.Helper()
	r, at, e := reel.Open(d, c)
	if r == nil || at != 0 || e != api.OK {
		t.Fatalf("Open: %d, error %d", at, e)
	}
	return r
}

func wantNoReel(t *testing.T, d *disk.Disk, c crown.Crown, sector int, want api.Errno) {
	t.Helper()
	r, at, e := reel.Open(d, c)
	if r != nil || at != sector || e != want {
		t.Fatalf("Open: %v, %d, error %d, want %d, error %d", r, at, e, sector, want)
	}
}

// wantReel checks all that a reel tells. sectors is how many its half has.
func wantReel(t *testing.T, r *reel.Reel, sectors int, serial uint32, records ...[]byte) {
	t.Helper()
	got := r.Records()
	if !sameRecords(got, records) {
		t.Fatalf("%d records, want %d, or other ones", len(got), len(records))
	}
	if r.Count() != len(records) || r.Serial() != serial {
		t.Fatalf("Count %d, Serial %d, want %d, %d", r.Count(), r.Serial(), len(records), serial)
	}
	size := len(laid(records...))
	if r.Size() != size || r.Room() != sectors*share-size {
		t.Fatalf("Size %d, Room %d, want %d, %d", r.Size(), r.Room(), size, sectors*share-size)
	}
}

func TestOpenOfAnEmptyLog(t *testing.T) {
	for sectors := 4; sectors < 12; sectors++ {
		for half := range byte(2) {
			d := newDisk(t, sectors)
			wantReel(t, open(t, d, crown.Crown{Gen: 3, Half: half, Serial: 7}), (sectors-2)/2, 8)
		}
	}
	r := open(t, newDisk(t, api.MaxSectors), crown.First())
	wantReel(t, r, 2047, 1)
}

func TestOpenRefuses(t *testing.T) {
	wantNoReel(t, nil, crown.First(), 0, api.ErrArg)
	wantNoReel(t, nil, crown.Crown{Half: 2}, 0, api.ErrArg)
	for n := 1; n < 4; n++ {
		d := newDisk(t, n)
		wantNoReel(t, d, crown.First(), 0, api.ErrArg)
		wantNoReel(t, d, crown.First().Next(), 0, api.ErrArg)
	}
	d := newDisk(t, 8)
	for i := range 8 {
		put(t, d, i, filled(0xa5))
	}
	for _, half := range []byte{2, 3, 128, 255} {
		wantNoReel(t, d, crown.Crown{Gen: 1, Half: half}, 0, api.ErrArg)
	}
	wantNoReel(t, d, crown.Crown{Gen: 1, Half: 0}, 2, api.ErrCorrupt)
	wantNoReel(t, d, crown.Crown{Gen: 1, Half: 1}, 5, api.ErrCorrupt)
}

func TestOpenReadsALog(t *testing.T) {
	rows := map[string][][]byte{
		"one record":              {[]byte("a")},
		"an empty record":         {nil},
		"some":                    {[]byte("a"), nil, sample(100, 1), nil},
		"a page but one byte":     {sample(share-3, 1)},
		"exactly one page":        {sample(share-2, 1)},
		"a page and one byte":     {sample(share-1, 1)},
		"exactly one page of two": {sample(200, 1), sample(share-2-202, 2)},
		"a length on two pages":   {sample(share-3, 1), sample(300, 2)},
		"three pages":             {sample(3*share-2, 1)},
		"all pages":               {sample(4*share-2-3, 1), []byte("ab")},
		"zero bytes":              {make([]byte, 1000)},
	}
	for name, records := range rows {
		t.Run(name, func(t *testing.T) {
			for half := range byte(2) {
				c := crown.Crown{Gen: 0x01020304, Half: half, Serial: 9}
				d := newDisk(t, 11)
				first, sectors := c.From(11)
				putLog(t, d, first, logOf(c.Gen, laid(records...), 0x0a0b0c0d, 0x0a0b0c0d, 0x11121314, 0x11121315))
				r := open(t, d, c)
				serial := []uint32{0x0a0b0c0e, 0x0a0b0c0e, 0x11121315, 0x11121316}[(len(laid(records...))-1)/share]
				wantReel(t, r, sectors, serial, records...)
				for i := range 11 {
					if inside := i >= first && i < first+sectors; !inside && !d.Blank(i) {
						t.Fatal(i)
					}
				}
			}
		})
	}
}

// The records end where a record is not complete; so does Size.
func TestOpenOfAnUnfinishedRecord(t *testing.T) {
	whole := [][]byte{[]byte("ab"), sample(share, 1), nil}
	long := laid(sample(2*share, 2))
	ends := map[string][]byte{
		"one byte":          long[:1],
		"two bytes":         long[:2],
		"to the end":        long[:2*share-len(laid(whole...))],
		"beyond it":         long[:2*share-len(laid(whole...))+1],
		"one byte too few":  long[:len(long)-1],
		"a length too long": {0x81, 0, 'a'},
		"above MaxRecord":   laid(make([]byte, api.MaxRecord+1))[:300],
	}
	for name, end := range ends {
		t.Run(name, func(t *testing.T) {
			d := newDisk(t, 12)
			putLog(t, d, 2, logOf(1, append(laid(whole...), end...), 5, 6, 7, 8))
			r := open(t, d, crown.First())
			wantReel(t, r, 5, uint32(5+(len(laid(whole...))+len(end)-1)/share)+1, whole...)
		})
	}
}

// A log of three full pages and one more, each with records of its own.
func fourPages() ([][]byte, []page.Page) {
	records := [][]byte{sample(share-2, 1), sample(share-2, 2), sample(share-2, 3), []byte("d")}
	return records, logOf(6, laid(records...), 21, 22, 23, 24)
}

func TestOpenStopsAtWhatDoesNotBelong(t *testing.T) {
	records, pages := fourPages()
	changes := map[string]func(p *page.Page){
		"another Gen":        func(p *page.Page) { p.Gen = 5 },
		"a greater Gen":      func(p *page.Page) { p.Gen = 7 },
		"kind 2":             func(p *page.Page) { p.Kind = 2 },
		"kind 9":             func(p *page.Page) { p.Kind = 9 },
		"the Number before":  func(p *page.Page) { p.Number-- },
		"the Number after":   func(p *page.Page) { p.Number++ },
		"Number plus 2^16":   func(p *page.Page) { p.Number += 1 << 16 },
		"no Data":            func(p *page.Page) { p.Data = nil },
		"three bytes":        func(p *page.Page) { p.Data = p.Data[:3] },
		"the first byte":     func(p *page.Page) { p.Data[0] ^= 1 },
		"the second byte":    func(p *page.Page) { p.Data[1] ^= 1 },
		"the third byte":     func(p *page.Page) { p.Data[2] ^= 1 },
		"the fourth byte":    func(p *page.Page) { p.Data[3] ^= 1 },
		"its own Serial":     func(p *page.Page) { p.Data[3] = byte(p.Serial) },
		"its bytes backward": func(p *page.Page) { slices.Reverse(p.Data[:4]); p.Data[1] ^= 2 },
	}
	for name, change := range changes {
		t.Run(name, func(t *testing.T) {
			for i := range pages {
				d := newDisk(t, 14)
				putLog(t, d, 2, pages)
				p := pages[i]
				p.Data = bytes.Clone(p.Data)
				change(&p)
				put(t, d, 2+i, bytesOf(t, p))
				r := open(t, d, crown.Crown{Gen: 6})
				serial := uint32(25)
				if i == 3 && p.Gen != 6 {
					serial = 24
				}
				wantReel(t, r, 6, serial, records[:i]...)
			}
		})
	}
}

// The Serial of the previous page is that of the page that is there.
func TestOpenStopsAfterAnotherVersionOfAPage(t *testing.T) {
	records, pages := fourPages()
	for i := range pages {
		d := newDisk(t, 14)
		putLog(t, d, 2, pages)
		p := pages[i]
		p.Serial += 10
		put(t, d, 2+i, bytesOf(t, p))
		r := open(t, d, crown.Crown{Gen: 6})
		wantReel(t, r, 6, p.Serial+1, records[:i+1]...)
	}
}

func TestOpenStopsAtABlankSector(t *testing.T) {
	records, pages := fourPages()
	for i := range pages {
		d := newDisk(t, 14)
		putLog(t, d, 2, pages)
		put(t, d, 2+i, filled(0))
		serial := uint32(25)
		if i == 3 {
			serial = 24
		}
		wantReel(t, open(t, d, crown.Crown{Gen: 6}), 6, serial, records[:i]...)
	}
}

func TestOpenStopsAfterAPageThatIsNotFull(t *testing.T) {
	records, pages := fourPages()
	for i := range 3 {
		for _, size := range []int{4, 5, page.Room - 1} {
			d := newDisk(t, 14)
			putLog(t, d, 2, pages)
			p := pages[i]
			p.Data = p.Data[:size]
			put(t, d, 2+i, bytesOf(t, p))
			wantReel(t, open(t, d, crown.Crown{Gen: 6}), 6, 25, records[:i]...)
		}
	}
}

// The log ends with its half, and does not go on in the other one.
func TestOpenStopsAtTheEndOfTheHalf(t *testing.T) {
	records := [][]byte{sample(share-2, 1), sample(share-2, 2), sample(share-2, 3)}
	pages := logOf(6, laid(records...), 21, 22, 23)
	d := newDisk(t, 6)
	putLog(t, d, 2, pages)
	wantReel(t, open(t, d, crown.Crown{Gen: 6}), 2, 23, records[:2]...)
	wantReel(t, open(t, d, crown.Crown{Gen: 6, Half: 1}), 2, 24)
	d = newDisk(t, 7)
	putLog(t, d, 4, pages)
	wantReel(t, open(t, d, crown.Crown{Gen: 6, Half: 1}), 2, 23, records[:2]...)
}

func TestOpenOfACorruptSector(t *testing.T) {
	records, pages := fourPages()
	rotten := func(t *testing.T, d *disk.Disk, at int) {
		t.Helper()
		wantErrno(t, "Rot", d.Rot(at, 2000, 1, 1), api.OK)
	}
	for i := range 4 {
		d := newDisk(t, 14)
		putLog(t, d, 2, pages)
		rotten(t, d, 2+i)
		wantNoReel(t, d, crown.Crown{Gen: 6}, 2+i, api.ErrCorrupt)
		wantReel(t, open(t, d, crown.Crown{Gen: 6, Half: 1}), 6, 1)
		// The first one counts.
		put(t, d, 2, filled(1))
		wantNoReel(t, d, crown.Crown{Gen: 6}, 2, api.ErrCorrupt)
	}
	for i := 4; i < 6; i++ { // after the last page, which is not Full
		d := newDisk(t, 14)
		putLog(t, d, 2, pages)
		put(t, d, 2+i, filled(1))
		wantReel(t, open(t, d, crown.Crown{Gen: 6}), 6, 25, records...)
	}
	for i := 1; i < 4; i++ { // after a page that does not belong to the log
		d := newDisk(t, 14)
		putLog(t, d, 2, pages)
		p := pages[i-1]
		p.Gen = 2
		put(t, d, 2+i-1, bytesOf(t, p))
		rotten(t, d, 2+i)
		wantReel(t, open(t, d, crown.Crown{Gen: 6}), 6, []uint32{0, 25, 25, 23}[i], records[:i-1]...)
	}
}

func TestSerial(t *testing.T) {
	const gen = 6
	log := logOf(gen, laid([]byte("a")), 40)
	beyond := func(gen, serial uint32, kind byte, number uint32) page.Page {
		return page.Page{Gen: gen, Serial: serial, Kind: kind, Number: number}
	}
	cases := []struct {
		name   string
		serial uint32
		first  []page.Page
		last   []page.Page
		want   uint32
	}{
		{"the crown's", 50, log, nil, 51},
		{"the log's", 30, log, nil, 41},
		{"an equal one", 40, log, nil, 41},
		{"one beyond the log", 30, log, []page.Page{beyond(gen, 60, 1, 5)}, 61},
		{"a smaller one beyond the log", 30, log, []page.Page{beyond(gen, 35, 1, 5)}, 41},
		{"one of another kind", 30, log, []page.Page{beyond(gen, 60, 9, 0)}, 61},
		{"one with another Number", 30, log, []page.Page{beyond(gen, 60, 1, 0)}, 61},
		{"one of a smaller Gen", 30, log, []page.Page{beyond(gen-1, 60, 1, 5)}, 41},
		{"one of a greater Gen", 30, log, []page.Page{beyond(gen+1, 60, 1, 5)}, 41},
		{"no log", 30, nil, []page.Page{beyond(gen, 31, 1, 5)}, 32},
		{"a log of another Gen", 30, logOf(gen+1, laid([]byte("a")), 99), nil, 31},
		{"above 2^31", 1 << 31, log, nil, 1<<31 + 1},
		{"2^32 - 2", 0, log, []page.Page{beyond(gen, math.MaxUint32-1, 1, 5)}, math.MaxUint32},
		{"2^32 - 1", 0, log, []page.Page{beyond(gen, math.MaxUint32, 1, 5)}, 0},
		{"2^32 - 1 of the crown", math.MaxUint32, log, nil, 0},
	}
	for _, c := range cases {
		t.Run(c.name, func(t *testing.T) {
			for half := range byte(2) {
				k := crown.Crown{Gen: gen, Half: half, Serial: c.serial}
				d := newDisk(t, 14)
				first, sectors := k.From(14)
				putLog(t, d, first, c.first)
				putLog(t, d, first+sectors-len(c.last), c.last)
				// Sectors outside the half do not count, nor what cannot be parsed.
				for i := range 14 {
					if i < first || i >= first+sectors {
						put(t, d, i, bytesOf(t, beyond(gen, 70, 1, 0)))
					}
				}
				put(t, d, first+2, filled(0xff))
				if got := open(t, d, k).Serial(); got != c.want {
					t.Fatalf("%d, want %d", got, c.want)
				}
			}
		})
	}
}

func TestOpenWritesNothing(t *testing.T) {
	_, pages := fourPages()
	d := newDisk(t, 14)
	putLog(t, d, 2, pages)
	put(t, d, 7, filled(3))
	writes := d.Writes()
	d.Limit(0)
	for _, c := range []crown.Crown{{Gen: 6}, {Gen: 6, Half: 1}, {Gen: 7}} {
		r := open(t, d, c)
		r.Records()
		r.Count()
		r.Size()
		r.Room()
		r.Serial()
	}
	if d.Writes() != writes || !slices.Equal(d.Waiting(), []int{7}) {
		t.Fatal(d.Writes(), d.Waiting())
	}
}

// Open sees what is pending, as Read of the disk does.
func TestOpenSeesPendingWrites(t *testing.T) {
	d := newDisk(t, 8)
	p := logOf(1, laid([]byte("a")), 1)[0]
	put(t, d, 2, bytesOf(t, p))
	wantReel(t, open(t, d, crown.First()), 3, 2, []byte("a"))
	wantReel(t, open(t, crash(t, d), crown.First()), 3, 1)
}

func TestRecordsShareNoMemory(t *testing.T) {
	records, pages := fourPages()
	d := newDisk(t, 14)
	putLog(t, d, 2, pages)
	r := open(t, d, crown.Crown{Gen: 6})
	first, second := r.Records(), r.Records()
	for i := range first {
		clear(first[i][:cap(first[i])])
		for k := i + 1; k < len(first); k++ {
			if !bytes.Equal(first[k], records[k]) {
				t.Fatalf("records %d and %d share memory", i, k)
			}
		}
	}
	if !sameRecords(second, records) || !sameRecords(r.Records(), records) {
		t.Fatal("records share memory with other records or the reel")
	}
	wantErrno(t, "Append", r.Append([]byte("e")), api.OK)
	wantReel(t, open(t, d, crown.Crown{Gen: 6}), 6, 26, append(records, []byte("e"))...)
}
