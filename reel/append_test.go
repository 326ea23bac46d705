package reel_test

import (
	"bytes"
	"math/rand"
	"slices"
	"testing"

	"hourglass/api"
	"hourglass/crown"
	"hourglass/disk"
	"hourglass/page"
	"hourglass/reel"
)

// model is a log in the words of the document: it lays out all pages anew for
// each record.
type model struct {
	crown   crown.Crown
	serial  uint32
	row     []byte
	records [][]byte
	pages   []page.Page
}

// modelOf is that of a reel that has just been opened, whose log has these
// pages.
func modelOf(c crown.Crown, r *reel.Reel, pages []page.Page) *model {
	records := r.Records()
	return &model{crown: c, serial: r.Serial(), row: laid(records...), records: records, pages: pages}
}

// add returns the numbers of the pages that are to be written.
func (m *model) add(p []byte) []int {
	m.records = append(m.records, bytes.Clone(p))
	m.row = append(m.row, laid(p)...)
	var pages []page.Page
	var written []int
	before := uint32(0)
	for i, row := 0, m.row; len(row) > 0; i++ {
		n := min(len(row), share)
		q := logPage(m.crown.Gen, m.serial, uint32(i), before, row[:n])
		if i < len(m.pages) && bytes.Equal(q.Data, m.pages[i].Data) {
			q = m.pages[i]
		} else {
			written = append(written, i)
		}
		pages = append(pages, q)
		row, before = row[n:], q.Serial
	}
	m.pages = pages
	return written
}

// wantAppend appends a record, and checks what is written where.
func (m *model) wantAppend(t *testing.T, d *disk.Disk, r *reel.Reel, p []byte) {
	t.Helper()
	first, sectors := m.crown.From(d.Sectors())
	waiting := d.Waiting()
	for _, i := range m.add(p) {
		waiting = append(waiting, first+i)
	}
	wantErrno(t, "Append", r.Append(p), api.OK)
	if !slices.Equal(d.Waiting(), waiting) {
		t.Fatalf("%v are pending, want %v", d.Waiting(), waiting)
	}
	for i, q := range m.pages {
		if !bytes.Equal(sectorOf(t, d, first+i), bytesOf(t, q)) {
			t.Fatalf("page %d has other bytes", i)
		}
	}
	wantReel(t, r, sectors, m.serial, m.records...)
}

func TestExample(t *testing.T) {
	d := newDisk(t, 8)
	r := open(t, d, crown.First())
	wantErrno(t, "Append", r.Append([]byte("a")), api.OK)
	wantErrno(t, "Append", r.Append([]byte("b")), api.OK)
	wantErrno(t, "Sync", r.Sync(), api.OK)
	wantErrno(t, "Append", r.Append([]byte("c")), api.OK)
	wantReel(t, open(t, crash(t, d), crown.First()), 3, 2, []byte("a"), []byte("b"))
	wantReel(t, open(t, crash(t, d, true), crown.First()), 3, 2, []byte("a"), []byte("b"), []byte("c"))
}

func TestAppendByHand(t *testing.T) {
	c := crown.Crown{Gen: 3, Half: 1, Serial: 0x01020304}
	d := newDisk(t, 8)
	r := open(t, d, c)
	wantErrno(t, "Append", r.Append([]byte("ab")), api.OK)
	if !slices.Equal(d.Waiting(), []int{5}) {
		t.Fatal(d.Waiting())
	}
	b := sectorOf(t, d, 5)
	if !bytes.Equal(b[:24], []byte{'h', 'g', 0, 0, 0, 3, 1, 2, 3, 5, 0, 0, 0, 0, 1, 0, 7, 0, 0, 0, 0, 2, 'a', 'b'}) {
		t.Fatalf("%x", b[:24])
	}
	wantErrno(t, "Append", r.Append(make([]byte, share)), api.OK)
	if !slices.Equal(d.Waiting(), []int{5, 5, 6}) {
		t.Fatal(d.Waiting())
	}
	b = sectorOf(t, d, 6)
	if !bytes.Equal(b[:26], []byte{'h', 'g', 0, 0, 0, 3, 1, 2, 3, 5, 0, 0, 0, 1, 1, 0, 9, 1, 2, 3, 5, 0, 0, 0, 0, 0}) {
		t.Fatalf("%x", b[:26])
	}
}

func TestAppendOfEveryShape(t *testing.T) {
	histories := map[string][]int{
		"small ones":                       {1, 0, 5, 1},
		"to the end of a page":             {share - 2, 1},
		"to the end of a page, in two":     {100, share - 2 - 101, 0},
		"one byte more":                    {share - 1, 3},
		"a length on two pages":            {share - 3, 300, 1},
		"two pages at once":                {3, 2*share - 4 - 2, 0},
		"five pages at once":               {10, 5 * share, 10},
		"only full pages":                  {share - 2, share - 2, 2*share - 2, share - 2},
		"an empty one after a full page":   {share - 2, 0, 0},
		"to the end of the half":           {5*share - 2, 2*share - 3, 0},
		"to the end of the half, with one": {7*share - 2},
	}
	for name, sizes := range histories {
		t.Run(name, func(t *testing.T) {
			for half := range byte(2) {
				c := crown.Crown{Gen: 2, Half: half, Serial: 5}
				d := newDisk(t, 16)
				for i := range 16 {
					if first, sectors := c.From(16); i < first || i >= first+sectors {
						put(t, d, i, filled(byte(i+1)))
					}
				}
				r := open(t, d, c)
				m := modelOf(c, r, nil)
				for k, n := range sizes {
					m.wantAppend(t, d, r, sample(n, int64(k)))
				}
				wantReel(t, open(t, d, c), 7, 7, m.records...)
			}
		})
	}
}

// What was a page's content and stays so is not written; neither is its Serial
// changed.
func TestAppendAfterAnUnfinishedRecord(t *testing.T) {
	whole := [][]byte{sample(200, 1), sample(share, 2)}
	lost := sample(3*share, 3)
	other := bytes.Clone(lost)
	other[2*share] ^= 1
	appended := map[string][][]byte{
		"the same one":                {lost},
		"the same one, and another":   {lost, sample(share, 4)},
		"a small one":                 {[]byte("a"), []byte("b"), sample(share, 5), lost},
		"an empty one":                {nil, lost},
		"another one":                 {sample(3*share, 6), nil},
		"one that differs at its end": {other, nil},
		"to the end of the page":      {sample(2*share-2-len(laid(whole...)), 7), nil, lost},
		"to the end of the next page": {sample(3*share-2-len(laid(whole...)), 8), nil, lost},
	}
	for name, records := range appended {
		t.Run(name, func(t *testing.T) {
			for cut := 1; cut < len(laid(lost)); cut += 61 {
				c := crown.Crown{Gen: 2, Serial: 5}
				pages := logOf(2, append(laid(whole...), laid(lost)[:cut]...), 11, 12, 12, 13, 13)
				d := newDisk(t, 24)
				putLog(t, d, 2, pages)
				r := open(t, d, c)
				m := modelOf(c, r, pages)
				for _, p := range records {
					m.wantAppend(t, d, r, p)
				}
				wantReel(t, open(t, d, c), 11, r.Serial()+1, m.records...)
			}
		})
	}
}

// Pages beyond the log are overwritten, whatever they are.
func TestAppendOverOldPages(t *testing.T) {
	_, pages := fourPages()
	c := crown.Crown{Gen: 6}
	d := newDisk(t, 14)
	putLog(t, d, 2, pages)
	short := pages[0]
	short.Data = short.Data[:4]
	put(t, d, 2, bytesOf(t, short))
	put(t, d, 7, filled(5))
	syncDisk(t, d)
	r := open(t, d, c)
	m := modelOf(c, r, []page.Page{short})
	for k := range int64(5) {
		m.wantAppend(t, d, r, sample(share+20, k))
	}
	wantReel(t, open(t, d, c), 6, 26, m.records...)
}

// TestLongHistories compares reels, and twins to which the same is done (P2),
// with the model.
func TestLongHistories(t *testing.T) {
	for seed := range int64(60) {
		rnd := rand.New(rand.NewSource(seed))
		c := crown.Crown{Gen: 1 + rnd.Uint32()%3, Half: byte(seed % 2), Serial: rnd.Uint32() % 100}
		const sectors = 20
		d, twin := newDisk(t, 2+2*sectors), newDisk(t, 2+2*sectors)
		r, s := open(t, d, c), open(t, twin, c)
		m := modelOf(c, r, nil)
		for k := range int64(80) {
			p := sample(rnd.Intn([]int{3, 40, share, 3 * share}[rnd.Intn(4)]), k)
			if len(laid(p)) > r.Room() {
				wantErrno(t, "Append", r.Append(p), api.ErrFull)
				continue
			}
			wantErrno(t, "Append", s.Append(p), api.OK)
			m.wantAppend(t, d, r, p)
			wantReel(t, s, sectors, m.serial, m.records...)
			if rnd.Intn(4) == 0 {
				wantErrno(t, "Sync", r.Sync(), api.OK)
				wantErrno(t, "Sync", s.Sync(), api.OK)
			}
			if rnd.Intn(8) == 0 {
				r, s = open(t, d, c), open(t, twin, c)
				m = modelOf(c, r, m.pages)
			}
		}
		for i := range d.Sectors() {
			if !bytes.Equal(sectorOf(t, d, i), sectorOf(t, twin, i)) {
				t.Fatal(seed, i)
			}
		}
	}
}

func TestAppendRefuses(t *testing.T) {
	d := newDisk(t, 5)
	r := open(t, d, crown.First())
	refuse := func(size int, want api.Errno) {
		t.Helper()
		count, room, writes := r.Count(), r.Room(), d.Writes()
		wantErrno(t, "Append", r.Append(make([]byte, size)), want)
		if r.Count() != count || r.Room() != room || d.Writes() != writes {
			t.Fatal("a refused Append has an effect")
		}
	}
	refuse(api.MaxRecord+1, api.ErrLong)
	refuse(1<<20, api.ErrLong)
	refuse(api.MaxRecord, api.ErrFull)
	refuse(share-1, api.ErrFull)
	d.Limit(0)
	refuse(api.MaxRecord+1, api.ErrLong)
	refuse(share-1, api.ErrFull)
	refuse(share-2, api.ErrOff)
	d.Limit(-1)
	wantErrno(t, "Append", r.Append(make([]byte, 10)), api.OK)
	refuse(share-11-1, api.ErrFull)
	wantErrno(t, "Append", r.Append(make([]byte, share-11-2)), api.OK)
	if r.Room() != 0 {
		t.Fatal(r.Room())
	}
	refuse(0, api.ErrFull)
	refuse(api.MaxRecord+1, api.ErrLong)
	wantReel(t, open(t, d, crown.First()), 1, 2, make([]byte, 10), make([]byte, share-11-2))
}

func TestAppendOfTheLongestRecord(t *testing.T) {
	d := newDisk(t, 2+2*300)
	r := open(t, d, crown.First())
	a, b := sample(api.MaxRecord, 1), sample(api.MaxRecord, 2)
	wantErrno(t, "Append", r.Append(a), api.OK)
	wantErrno(t, "Append", r.Append(append(b, 0)), api.ErrLong)
	wantErrno(t, "Append", r.Append(b), api.OK)
	wantReel(t, open(t, d, crown.First()), 300, 2, a, b)
}

// The room of a large half, filled to its last byte.
func TestAppendUntilFull(t *testing.T) {
	d := newDisk(t, api.MaxSectors)
	r := open(t, d, crown.First().Next())
	count := 0
	for r.Room() > api.MaxRecord+3 {
		wantErrno(t, "Append", r.Append(sample(api.MaxRecord, int64(count))), api.OK)
		count++
	}
	last := r.Room() - 2
	wantErrno(t, "Append", r.Append(make([]byte, last+1)), api.ErrFull)
	wantErrno(t, "Append", r.Append(make([]byte, last)), api.OK)
	wantErrno(t, "Append", r.Append(nil), api.ErrFull)
	s := open(t, d, crown.First().Next())
	if r.Room() != 0 || s.Room() != 0 || s.Count() != count+1 || s.Size() != 2047*share || !d.Blank(2) || !d.Blank(2048) || d.Blank(4095) {
		t.Fatal(r.Room(), s.Room(), s.Count(), s.Size())
	}
}

func TestSyncIsTheDisks(t *testing.T) {
	d := newDisk(t, 6)
	r := open(t, d, crown.First())
	put(t, d, 5, filled(1))
	wantErrno(t, "Append", r.Append([]byte("a")), api.OK)
	d.Limit(0)
	wantErrno(t, "Sync", r.Sync(), api.ErrOff)
	if !slices.Equal(d.Waiting(), []int{5, 2}) {
		t.Fatal(d.Waiting())
	}
	d.Limit(1)
	wantErrno(t, "Sync", r.Sync(), api.OK)
	if len(d.Waiting()) != 0 {
		t.Fatal(d.Waiting())
	}
	wantReel(t, open(t, crash(t, d), crown.First()), 2, 2, []byte("a"))
}

func TestNilReel(t *testing.T) {
	var r *reel.Reel
	for _, p := range [][]byte{nil, []byte("a"), make([]byte, api.MaxRecord+1)} {
		wantErrno(t, "Append to nil", r.Append(p), api.ErrNone)
	}
	wantErrno(t, "Sync of nil", r.Sync(), api.ErrNone)
	if len(r.Records()) != 0 || r.Count() != 0 || r.Serial() != 0 || r.Size() != 0 || r.Room() != 0 {
		t.Fatal("a nil reel tells something")
	}
}

func TestAppendRetainsNothing(t *testing.T) {
	d := newDisk(t, 8)
	r := open(t, d, crown.First())
	p := append([]byte("abc"), "spare"...)
	wantErrno(t, "Append", r.Append(p[:3]), api.OK)
	if string(p) != "abcspare" {
		t.Fatal("Append changes its argument")
	}
	clear(p)
	wantErrno(t, "Append", r.Append([]byte("d")), api.OK)
	want := [][]byte{[]byte("abc"), []byte("d")}
	wantReel(t, r, 3, 1, want...)
	wantReel(t, open(t, d, crown.First()), 3, 2, want...)
}
