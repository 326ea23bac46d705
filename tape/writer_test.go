package tape_test

import (
	"bytes"
	"encoding/binary"
	"math"
	"math/rand"
	"strings"
	"testing"

	"hourglass/tape"
)

// numbers has those at which the number of bytes changes, and others.
func numbers() []uint64 {
	l := []uint64{0, 1, 2, 300, math.MaxUint32, math.MaxUint64, math.MaxUint64 - 1}
	for shift := range 64 {
		l = append(l, 1<<shift-1, 1<<shift, 1<<shift+1)
	}
	r := rand.New(rand.NewSource(1))
	for range 2000 {
		l = append(l, r.Uint64()>>r.Intn(64))
	}
	return l
}

func integers() []int64 {
	l := []int64{math.MinInt64, math.MinInt64 + 1, math.MaxInt64, math.MaxInt64 - 1}
	for _, n := range numbers() {
		l = append(l, int64(n), -int64(n))
	}
	return l
}

func wantBytes(t *testing.T, w *tape.Writer, want ...byte) {
	t.Helper()
	if got := w.Bytes(); !bytes.Equal(got, want) {
		t.Fatalf("%x, want %x", got, want)
	}
}

func TestNumByHand(t *testing.T) {
	cases := []struct {
		n    uint64
		want []byte
	}{
		{0, []byte{0}},
		{1, []byte{1}},
		{0x7f, []byte{0x7f}},
		{0x80, []byte{0x80, 1}},
		{0x81, []byte{0x81, 1}},
		{0xff, []byte{0xff, 1}},
		{0x100, []byte{0x80, 2}},
		{300, []byte{0xac, 2}},
		{0x3fff, []byte{0xff, 0x7f}},
		{0x4000, []byte{0x80, 0x80, 1}},
		{1 << 62, []byte{0x80, 0x80, 0x80, 0x80, 0x80, 0x80, 0x80, 0x80, 0x40}},
		{1<<63 - 1, []byte{0xff, 0xff, 0xff, 0xff, 0xff, 0xff, 0xff, 0xff, 0x7f}},
		{1 << 63, []byte{0x80, 0x80, 0x80, 0x80, 0x80, 0x80, 0x80, 0x80, 0x80, 1}},
		{math.MaxUint64, []byte{0xff, 0xff, 0xff, 0xff, 0xff, 0xff, 0xff, 0xff, 0xff, 1}},
	}
	for _, c := range cases {
		wantBytes(t, new(tape.Writer).Num(c.n), c.want...)
	}
}

func TestIntByHand(t *testing.T) {
	cases := []struct {
		n    int64
		want []byte
	}{
		{0, []byte{0}},
		{-1, []byte{1}},
		{1, []byte{2}},
		{-2, []byte{3}},
		{63, []byte{0x7e}},
		{-64, []byte{0x7f}},
		{64, []byte{0x80, 1}},
		{-65, []byte{0x81, 1}},
		{150, []byte{0xac, 2}},
		{math.MaxInt64, []byte{0xfe, 0xff, 0xff, 0xff, 0xff, 0xff, 0xff, 0xff, 0xff, 1}},
		{math.MinInt64, []byte{0xff, 0xff, 0xff, 0xff, 0xff, 0xff, 0xff, 0xff, 0xff, 1}},
	}
	for _, c := range cases {
		wantBytes(t, new(tape.Writer).Int(c.n), c.want...)
	}
}

func TestNumAndIntOfManyNumbers(t *testing.T) {
	for _, n := range numbers() {
		wantBytes(t, new(tape.Writer).Num(n), binary.AppendUvarint(nil, n)...)
	}
	for _, n := range integers() {
		wantBytes(t, new(tape.Writer).Int(n), binary.AppendVarint(nil, n)...)
	}
}

func TestTextByHand(t *testing.T) {
	wantBytes(t, new(tape.Writer).Text(""), 0)
	wantBytes(t, new(tape.Writer).Text("a"), 1, 'a')
	wantBytes(t, new(tape.Writer).Text("\x00\xff\x80"), 3, 0, 0xff, 0x80)
	wantBytes(t, new(tape.Writer).Text("é"), 2, 0xc3, 0xa9) // its length is that of its bytes
	for _, n := range []int{127, 128, 300, 70000} {
		s := strings.Repeat("x", n)
		want := append(binary.AppendUvarint(nil, uint64(n)), s...)
		wantBytes(t, new(tape.Writer).Text(s), want...)
	}
}

func TestByteAndBoolByHand(t *testing.T) {
	for b := range 256 {
		wantBytes(t, new(tape.Writer).Byte(byte(b)), byte(b))
	}
	wantBytes(t, new(tape.Writer).Bool(false), 0)
	wantBytes(t, new(tape.Writer).Bool(true), 1)
}

func TestZeroWriterIsEmpty(t *testing.T) {
	var w tape.Writer
	if len(w.Bytes()) != 0 {
		t.Fatalf("%x", w.Bytes())
	}
	wantBytes(t, w.Num(300).Int(-1), 0xac, 2, 1)
}

func TestMethodsReturnTheirWriter(t *testing.T) {
	w := new(tape.Writer)
	if w.Num(5) != w || w.Num(500) != w || w.Int(-5) != w || w.Int(5) != w || w.Text("") != w || w.Text("ab") != w ||
		w.Byte(200) != w || w.Bool(true) != w || w.Bool(false) != w {
		t.Fatal("a method returns another Writer")
	}
	wantBytes(t, w, 5, 0xf4, 3, 9, 10, 0, 2, 'a', 'b', 200, 1, 0)
}

func TestNilWriter(t *testing.T) {
	var w *tape.Writer
	if w.Num(0) != nil || w.Num(300) != nil || w.Int(-1) != nil || w.Int(1) != nil || w.Text("") != nil || w.Text("ab") != nil ||
		w.Byte(1) != nil || w.Bool(true) != nil || w.Bool(false) != nil {
		t.Fatal("a method of a nil Writer returns a Writer")
	}
	if len(w.Bytes()) != 0 || len(w.Num(1).Text("ab").Bytes()) != 0 {
		t.Fatal("a nil Writer has bytes")
	}
}

// TestBytesAreNotShared writes over every result, with its spare capacity.
func TestBytesAreNotShared(t *testing.T) {
	w := new(tape.Writer)
	var all []byte
	for i := range 100 {
		w.Byte(byte(i))
		all = append(all, byte(i))
		first, second := w.Bytes(), w.Bytes()
		clear(first[:cap(first)])
		if !bytes.Equal(second, all) {
			t.Fatalf("%x, want %x", second, all)
		}
		wantBytes(t, w, all...)
	}
	early := w.Bytes()
	w.Num(1 << 40).Text("more")
	if !bytes.Equal(early, all) {
		t.Fatal("what was returned earlier has changed")
	}
}

func TestWritersAreIndependent(t *testing.T) {
	a, b := new(tape.Writer), new(tape.Writer)
	a.Text("a").Num(300)
	b.Int(-1)
	a.Byte(7)
	b.Bool(true)
	wantBytes(t, a, 1, 'a', 0xac, 2, 7)
	wantBytes(t, b, 1, 1)
}
