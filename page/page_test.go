package page_test

import (
	"bytes"
	"encoding/binary"
	"hash/crc32"
	"math"
	"math/rand"
	"testing"

	"hourglass/api"
	"hourglass/page"
)

const header = 17

// sample has n bytes that depend on nothing else; none of them is 0.
func sample(n int) []byte {
	p := make([]byte, n)
	r := rand.New(rand.NewSource(int64(n)))
	for i := range p {
		p[i] = byte(1 + r.Intn(255))
	}
	return p
}

// laidOut is a page's sector as the document describes it.
func laidOut(p page.Page) []byte {
	b := []byte{0x68, 0x67}
	b = binary.BigEndian.AppendUint32(b, p.Gen)
	b = binary.BigEndian.AppendUint32(b, p.Serial)
	b = binary.BigEndian.AppendUint32(b, p.Number)
	b = append(b, p.Kind)
	b = binary.BigEndian.AppendUint16(b, uint16(len(p.Data)))
	b = append(b, p.Data...)
	b = append(b, make([]byte, 508-len(b))...)
	return binary.LittleEndian.AppendUint32(b, crc32.ChecksumIEEE(b))
}

// resealed gives changed bytes the sum that they need.
func resealed(b []byte) []byte {
	c := bytes.Clone(b[:508])
	return binary.LittleEndian.AppendUint32(c, crc32.ChecksumIEEE(c))
}

func pages() []page.Page {
	return []page.Page{
		{Kind: 1},
		{Gen: 1, Kind: 9, Data: []byte{0}},
		{Gen: 0x01020304, Serial: 0x05060708, Number: 0x090a0b0c, Kind: 0x0d, Data: []byte("ab")},
		{Gen: math.MaxUint32, Serial: math.MaxUint32, Number: math.MaxUint32, Kind: 255, Data: sample(255)},
		{Serial: 1 << 31, Kind: 1, Data: sample(256)},
		{Number: 1, Kind: 2, Data: make([]byte, 300)},
		{Gen: 3, Kind: 1, Data: sample(page.Room - 1)},
		{Gen: 4, Kind: 128, Data: sample(page.Room)},
		{Gen: 5, Kind: 1, Data: make([]byte, page.Room)},
	}
}

func mustBytes(t *testing.T, p page.Page) []byte {
	t.Helper()
	b, e := p.Bytes()
	if e != api.OK {
		t.Fatalf("Bytes: error %d", e)
	}
	return b
}

func wantParse(t *testing.T, b []byte, want api.Errno) {
	t.Helper()
	p, e := page.Parse(b)
	if e != want {
		t.Fatalf("Parse: error %d, want %d", e, want)
	}
	if e != api.OK && (p.Gen != 0 || p.Serial != 0 || p.Number != 0 || p.Kind != 0 || len(p.Data) != 0) {
		t.Fatalf("Parse returns %v beside its error", p)
	}
}

func TestBytesByHand(t *testing.T) {
	p := page.Page{Gen: 0x01020304, Serial: 0x15161718, Number: 0x292a2b2c, Kind: 0x3d, Data: []byte{0x4e, 0x5f}}
	b := mustBytes(t, p)
	want := []byte{0x68, 0x67, 1, 2, 3, 4, 0x15, 0x16, 0x17, 0x18, 0x29, 0x2a, 0x2b, 0x2c, 0x3d, 0, 2, 0x4e, 0x5f}
	if len(b) != 512 || !bytes.Equal(b[:19], want) || !bytes.Equal(b[19:508], make([]byte, 489)) {
		t.Fatalf("%x", b)
	}
	s := crc32.ChecksumIEEE(b[:508])
	if !bytes.Equal(b[508:], []byte{byte(s), byte(s >> 8), byte(s >> 16), byte(s >> 24)}) {
		t.Fatalf("sum %x, want %x", b[508:], s)
	}
}

func TestBytesAndParseAreInverse(t *testing.T) {
	for _, p := range pages() {
		b := mustBytes(t, p)
		if !bytes.Equal(b, laidOut(p)) {
			t.Fatalf("%v is %x", p, b)
		}
		q, e := page.Parse(b)
		if e != api.OK || q.Gen != p.Gen || q.Serial != p.Serial || q.Number != p.Number || q.Kind != p.Kind || !bytes.Equal(q.Data, p.Data) {
			t.Fatalf("error %d, %v, want %v", e, q, p)
		}
		if !bytes.Equal(mustBytes(t, q), b) {
			t.Fatalf("%v has other bytes", q)
		}
	}
}

func TestEveryLengthOfData(t *testing.T) {
	for n := range page.Room + 1 {
		p := page.Page{Gen: uint32(n), Kind: 1, Data: sample(n)}
		q, e := page.Parse(mustBytes(t, p))
		if e != api.OK || !bytes.Equal(q.Data, p.Data) {
			t.Fatal(n, e)
		}
	}
}

func TestBytesRefuses(t *testing.T) {
	cases := []struct {
		kind   byte
		length int
		want   api.Errno
	}{
		{0, 0, api.ErrArg},
		{0, page.Room, api.ErrArg},
		{0, page.Room + 1, api.ErrArg},
		{1, page.Room + 1, api.ErrLong},
		{255, page.Room + 2, api.ErrLong},
		{1, 65536, api.ErrLong},
		{1, 65536 + 2, api.ErrLong},
		{1, page.Room, api.OK},
	}
	for _, c := range cases {
		b, e := page.Page{Gen: 1, Kind: c.kind, Data: make([]byte, c.length)}.Bytes()
		if e != c.want || (e != api.OK && b != nil) {
			t.Fatalf("kind %d, %d bytes: error %d, want %d", c.kind, c.length, e, c.want)
		}
	}
	if b, e := (page.Page{}).Bytes(); e != api.ErrArg || b != nil {
		t.Fatal(b, e)
	}
}

func TestParseOfAnotherLength(t *testing.T) {
	long := append(laidOut(page.Page{Kind: 1}), 0)
	wantParse(t, nil, api.ErrArg)
	for _, n := range []int{0, 1, 3, 4, 17, 508, 511, 513} {
		wantParse(t, long[:n], api.ErrArg)
		wantParse(t, make([]byte, n), api.ErrArg)
	}
	wantParse(t, make([]byte, 1024), api.ErrArg)
	wantParse(t, long[:512], api.OK)
}

func TestParseOfBlank(t *testing.T) {
	wantParse(t, make([]byte, 512), api.ErrNone)
	for i := range 512 {
		b := make([]byte, 512)
		b[i] = 1
		wantParse(t, b, api.ErrCorrupt)
	}
}

func TestParseFindsBursts(t *testing.T) {
	b := laidOut(page.Page{Gen: 7, Serial: 8, Number: 9, Kind: 1, Data: []byte("ab")})
	for bit := range 8 * 512 {
		for _, mask := range []uint64{1, 3, 5, 0x80000001, 0xffffffff} {
			c := bytes.Clone(b)
			for k := range min(32, 8*512-bit) {
				if mask>>k&1 == 1 {
					c[(bit+k)/8] ^= 1 << ((bit + k) % 8)
				}
			}
			wantParse(t, c, api.ErrCorrupt)
		}
	}
}

func TestParseRefusesWhatNoPageIs(t *testing.T) {
	b := laidOut(page.Page{Gen: 7, Serial: 8, Number: 9, Kind: 1, Data: []byte("ab")})
	cases := []struct {
		name string
		at   int
		to   byte
	}{
		{"the mark's first byte", 0, 0x67},
		{"the mark's first byte is 0", 0, 0},
		{"the mark's second byte", 1, 0x68},
		{"no kind", 14, 0},
		{"a long length", 15, 2},
		{"a longer length", 15, 0xff},
		{"less length than there are bytes", 16, 1},
		{"no length", 16, 0},
		{"a byte after Data", 19, 1},
		{"a byte in the middle", 300, 0x80},
		{"the last byte before the sum", 507, 1},
	}
	for _, c := range cases {
		t.Run(c.name, func(t *testing.T) {
			d := bytes.Clone(b)
			d[c.at] = c.to
			wantParse(t, d, api.ErrCorrupt) // the sum is checked before the rest
			wantParse(t, resealed(d), api.ErrForm)
		})
	}
	wantParse(t, resealed(b), api.OK)
	wantParse(t, resealed(make([]byte, 512)), api.ErrForm)
}

func TestParseOfEveryStoredLength(t *testing.T) {
	b := laidOut(page.Page{Gen: 7, Kind: 1})
	for n := range 1 << 16 {
		b[15], b[16] = byte(n>>8), byte(n)
		want := api.ErrForm
		if n <= page.Room {
			want = api.OK
		}
		wantParse(t, resealed(b), want)
	}
}

func TestParseAcceptsWhatBytesReturns(t *testing.T) {
	r := rand.New(rand.NewSource(3))
	accepted := 0
	for range 20000 {
		b := laidOut(page.Page{Gen: r.Uint32(), Serial: r.Uint32(), Number: r.Uint32(), Kind: byte(1 + r.Intn(3)), Data: sample(r.Intn(page.Room + 1))})
		for range r.Intn(3) {
			b[r.Intn(40)] = byte(r.Intn(4))
		}
		b = resealed(b)
		p, e := page.Parse(b)
		if e == api.OK {
			accepted++
			if !bytes.Equal(mustBytes(t, p), b) {
				t.Fatalf("%x is no page's", b)
			}
		} else if e != api.ErrForm {
			t.Fatal(e)
		}
	}
	if accepted < 1000 || accepted > 19000 {
		t.Fatal(accepted)
	}
}

func TestFull(t *testing.T) {
	for n, want := range map[int]bool{0: false, 1: false, 490: false, 491: true, 492: false} {
		if (page.Page{Kind: 1, Data: make([]byte, n)}).Full() != want {
			t.Fatal(n)
		}
	}
	if (page.Page{}).Full() {
		t.Fatal("a page without Data")
	}
	if page.Room != 491 {
		t.Fatal(page.Room)
	}
}

func TestBlank(t *testing.T) {
	if !page.Blank(nil) || !page.Blank([]byte{}) {
		t.Fatal("none of no bytes is other than 0")
	}
	for _, n := range []int{1, 2, 17, 512, 1000} {
		b := make([]byte, n, n+1)
		b[:n+1][n] = 1 // beyond the slice
		if !page.Blank(b) {
			t.Fatal(n)
		}
		for _, i := range []int{0, n / 2, n - 1} {
			for _, v := range []byte{1, 0x80, 0xff} {
				c := bytes.Clone(b)
				c[i] = v
				if page.Blank(c) {
					t.Fatal(n, i, v)
				}
			}
		}
	}
}

func TestSame(t *testing.T) {
	p := page.Page{Gen: 1, Serial: 2, Number: 3, Kind: 4, Data: []byte("ab")}
	others := []page.Page{
		{Gen: 9, Serial: 2, Number: 3, Kind: 4, Data: []byte("ab")},
		{Gen: 1, Serial: 9, Number: 3, Kind: 4, Data: []byte("ab")},
		{Gen: 1, Serial: 2, Number: 9, Kind: 4, Data: []byte("ab")},
		{Gen: 1, Serial: 2, Number: 3, Kind: 9, Data: []byte("ab")},
		{Gen: 1, Serial: 2, Number: 3, Kind: 4, Data: []byte("ac")},
		{Gen: 1, Serial: 2, Number: 3, Kind: 4, Data: []byte("abc")},
		{Gen: 1, Serial: 2, Number: 3, Kind: 4, Data: []byte("a")},
		{Gen: 1, Serial: 2, Number: 3, Kind: 4},
		{},
	}
	for _, q := range others {
		if page.Same(p, q) || page.Same(q, p) {
			t.Fatal(q)
		}
		if !page.Same(q, q) {
			t.Fatal(q)
		}
	}
	if !page.Same(p, page.Page{Gen: 1, Serial: 2, Number: 3, Kind: 4, Data: []byte("ab")}) {
		t.Fatal("equal bytes elsewhere")
	}
	if !page.Same(page.Page{Kind: 1}, page.Page{Kind: 1, Data: []byte{}}) {
		t.Fatal("nil and empty are equivalent")
	}
	long := page.Page{Data: make([]byte, 1000)} // no page that Bytes returns, but a value
	if !page.Same(long, long) || page.Same(long, page.Page{}) {
		t.Fatal("long Data")
	}
}

func TestMemoryIsNotShared(t *testing.T) {
	backing := bytes.Repeat([]byte{7}, 600)
	p := page.Page{Kind: 1, Data: backing[:100]}
	b := mustBytes(t, p)
	want := bytes.Clone(b)
	if !bytes.Equal(backing, bytes.Repeat([]byte{7}, 600)) {
		t.Fatal("Bytes changes Data or what lies after it")
	}
	clear(backing)
	if !bytes.Equal(b, want) {
		t.Fatal("Bytes retains Data")
	}
	other := mustBytes(t, page.Page{Kind: 1, Data: bytes.Repeat([]byte{7}, 100)})
	clear(b[:cap(b)])
	if !bytes.Equal(other, want) {
		t.Fatal("two results share memory")
	}

	sector := append(want, 5, 6, 7)[:512]
	q, _ := page.Parse(sector)
	r, _ := page.Parse(sector)
	if !bytes.Equal(sector[:515], append(laidOut(q), 5, 6, 7)) {
		t.Fatal("Parse changes its argument")
	}
	clear(q.Data[:cap(q.Data)])
	if !bytes.Equal(sector[:515], append(laidOut(r), 5, 6, 7)) {
		t.Fatal("a page shares memory with the bytes that were parsed")
	}
	clear(sector)
	if !bytes.Equal(r.Data, bytes.Repeat([]byte{7}, 100)) {
		t.Fatal("a page shares memory with the bytes or another page")
	}
}

func TestSameResultAgain(t *testing.T) {
	for _, p := range pages() {
		a, b := mustBytes(t, p), mustBytes(t, p)
		q, _ := page.Parse(a)
		r, _ := page.Parse(b)
		if !bytes.Equal(a, b) || !page.Same(q, r) || !page.Same(p, q) {
			t.Fatal(p)
		}
	}
}
