package reel_test

import (
	"bytes"
	"encoding/binary"
	"math"
	"math/rand"
	"slices"
	"testing"

	"hourglass/api"
	"hourglass/reel"
)

// sample has n bytes that depend on n and seed only.
func sample(n int, seed int64) []byte {
	p := make([]byte, n)
	r := rand.New(rand.NewSource(seed<<20 + int64(n)))
	for i := range p {
		p[i] = byte(r.Intn(256))
	}
	return p
}

// laid is a row of records as the document describes it.
func laid(records ...[]byte) []byte {
	var row []byte
	for _, p := range records {
		row = binary.AppendUvarint(row, uint64(len(p)))
		row = append(row, p...)
	}
	return row
}

func sameRecords(a, b [][]byte) bool {
	return slices.EqualFunc(a, b, bytes.Equal)
}

func wantCut(t *testing.T, p []byte, end int, records ...[]byte) {
	t.Helper()
	got, n := reel.Cut(p)
	if n != end || !sameRecords(got, records) {
		t.Fatalf("Cut of %d bytes: %d records, %d bytes, want %d records, %d bytes", len(p), len(got), n, len(records), end)
	}
}

func TestLayByHand(t *testing.T) {
	cases := []struct {
		records [][]byte
		want    string
	}{
		{nil, ""},
		{[][]byte{nil}, "\x00"},
		{[][]byte{{}, nil, {}}, "\x00\x00\x00"},
		{[][]byte{[]byte("a")}, "\x01a"},
		{[][]byte{[]byte("ab"), nil, []byte("\x00\xff")}, "\x02ab\x00\x02\x00\xff"},
	}
	for _, c := range cases {
		if got := reel.Lay(c.records...); string(got) != c.want {
			t.Fatalf("%x, want %x", got, c.want)
		}
	}
	for n, head := range map[int]string{127: "\x7f", 128: "\x80\x01", 300: "\xac\x02", 65536: "\x80\x80\x04", 65537: "\x81\x80\x04"} {
		p := sample(n, 1)
		if got := reel.Lay(p); string(got) != head+string(p) {
			t.Fatalf("%d bytes: %x ..", n, got[:4])
		}
	}
}

func TestCutIsTheInverseOfLay(t *testing.T) {
	rows := [][][]byte{
		nil,
		{nil},
		{{}, {}, {}},
		{[]byte("a"), []byte("b")},
		{sample(127, 1), sample(128, 2), sample(0, 3), sample(487, 4)},
		{sample(16383, 1), sample(16384, 2)},
		{sample(api.MaxRecord-1, 1), sample(api.MaxRecord, 2), sample(1, 3)},
	}
	for _, records := range rows {
		row := reel.Lay(records...)
		if !bytes.Equal(row, laid(records...)) {
			t.Fatalf("%d records: %d bytes", len(records), len(row))
		}
		wantCut(t, row, len(row), records...)
	}
}

// Cut stops where a record is not complete, wherever that is.
func TestCutOfEveryBeginning(t *testing.T) {
	records := [][]byte{[]byte("abc"), nil, sample(130, 1), []byte("d"), nil, sample(200, 2)}
	row := laid(records...)
	for n := range len(row) + 1 {
		whole, end := 0, 0
		for whole < len(records) && end+len(laid(records[whole])) <= n {
			end += len(laid(records[whole]))
			whole++
		}
		wantCut(t, row[:n], end, records[:whole]...)
	}
}

func TestCutStopsAtWhatIsNoRecord(t *testing.T) {
	before := laid([]byte("ab"), nil)
	cases := map[string][]byte{
		"not as few bytes as possible":  {0x81, 0, 'a', 'b', 'c'},
		"no length in two bytes":        {0x80, 0, 0, 0},
		"above MaxRecord":               laid(make([]byte, api.MaxRecord+1)),
		"above MaxRecord, and too long": laid(make([]byte, api.MaxRecord+1))[:9],
		"2^32":                          binary.AppendUvarint(nil, 1<<32),
		"2^32 + 1, and bytes":           append(binary.AppendUvarint(nil, 1<<32+1), make([]byte, 300)...),
		"2^63":                          append(binary.AppendUvarint(nil, 1<<63), make([]byte, 300)...),
		"2^64 - 1":                      append(binary.AppendUvarint(nil, math.MaxUint64), make([]byte, 300)...),
		"above 2^64 - 1":                bytes.Repeat([]byte{0xff}, 40),
		"an incomplete length":          {0x80},
		"one byte too few":              {3, 'a', 'b'},
	}
	for name, rest := range cases {
		t.Run(name, func(t *testing.T) {
			wantCut(t, rest, 0)
			wantCut(t, append(bytes.Clone(before), rest...), len(before), []byte("ab"), nil)
			// What would be a record after it is not reached.
			wantCut(t, slices.Concat(before, []byte{0x81, 0}, before), len(before), []byte("ab"), nil)
		})
	}
}

func TestRowsShareNoMemory(t *testing.T) {
	a, b := []byte("abcd")[:2], []byte("xyz")
	row := reel.Lay(a, b, a)
	if string(a[:4]) != "abcd" || string(b) != "xyz" {
		t.Fatal("Lay changes its argument")
	}
	other := reel.Lay(a, b, a)
	clear(a[:4])
	clear(row[:cap(row)])
	if string(other) != "\x02ab\x03xyz\x02ab" {
		t.Fatalf("%x", other)
	}

	p := append([]byte("\x02ab\x00\x03xyz\x01c\x09rest"), "spare"...)
	before := bytes.Clone(p)
	p = p[:len(p)-5]
	first, n := reel.Cut(p)
	second, m := reel.Cut(p)
	if n != 9+1 || m != n || !bytes.Equal(p[:len(p)+5], before) {
		t.Fatal(n, m)
	}
	want := [][]byte{[]byte("ab"), nil, []byte("xyz"), []byte("c")}
	for i := range first {
		full := first[i][:cap(first[i])]
		for k := range full {
			full[k] = '!'
		}
		_ = append(first[i], "!!!!"...)
		for k := i + 1; k < len(first); k++ {
			if !bytes.Equal(first[k], want[k]) {
				t.Fatalf("records %d and %d share memory", i, k)
			}
		}
	}
	if !bytes.Equal(p[:len(p)+5], before) {
		t.Fatal("a record shares memory with the row")
	}
	clear(p[:cap(p)])
	if !sameRecords(second, want) {
		t.Fatal("records share memory with the row or with those of another Cut")
	}
}

func TestSameRowAgain(t *testing.T) {
	for n := range 300 {
		p := sample(n, 7)
		a, end := reel.Cut(p)
		b, same := reel.Cut(p)
		if end != same || !sameRecords(a, b) || !bytes.Equal(reel.Lay(a...), p[:end]) {
			t.Fatal(n, end, same)
		}
	}
}
