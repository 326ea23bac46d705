package sum_test

import (
	"bytes"
	"hash/crc32"
	"math/rand"
	"testing"

	"hourglass/api"
	"hourglass/sum"
)

// sample has n bytes that depend on nothing else.
func sample(n int) []byte {
	p := make([]byte, n)
	rand.New(rand.NewSource(int64(n))).Read(p)
	return p
}

func TestKnownSums(t *testing.T) {
	s := sum.Make()
	cases := []struct {
		text string
		want uint32
	}{
		{"123456789", 0xcbf43926},
		{"", 0},
		{"a", 0xe8b7be43},
		{"\x00", 0xd202ef8d},
		{"\xff\xff\xff\xff", 0xffffffff},
		{"The quick brown fox jumps over the lazy dog", 0x414fa339},
	}
	for _, c := range cases {
		if got := s.Sum([]byte(c.text)); got != c.want {
			t.Errorf("%q: %x, want %x", c.text, got, c.want)
		}
	}
	for n := range 600 {
		if got, want := s.Sum(sample(n)), crc32.ChecksumIEEE(sample(n)); got != want {
			t.Fatalf("%d bytes: %x, want %x", n, got, want)
		}
	}
}

func TestSumOfParts(t *testing.T) {
	s := sum.Make()
	p := sample(20)
	want := s.Sum(p)
	for i := range 21 {
		for j := i; j <= 20; j++ {
			if got := s.Sum(p[:i], nil, p[i:j], []byte{}, p[j:]); got != want {
				t.Fatalf("%d, %d: %x, want %x", i, j, got, want)
			}
		}
	}
	if s.Sum() != 0 || s.Sum(nil) != 0 || s.Sum(nil, []byte{}) != 0 {
		t.Fatal("the sum of nothing is not 0")
	}
	if s.Sum(p[:10], p[10:]) == s.Sum(p[10:], p[:10]) {
		t.Fatal("the order of the parts does not matter")
	}
}

func TestStep(t *testing.T) {
	s := sum.Make()
	for n := range 40 {
		state := uint32(0xffffffff)
		for i, b := range sample(n) {
			state = sum.Step(state, b)
			if ^state != s.Sum(sample(n)[:i+1]) {
				t.Fatalf("byte %d of %d: %x", i, n, state)
			}
		}
	}
	if sum.Step(0, 0) != 0 || sum.Step(0, 1) != 0x77073096 || sum.Step(0xff, 0xff) != 0 || sum.Step(0xffffff00, 0) != 0x00ffffff {
		t.Fatal("Step of one byte")
	}
}

func TestTableIsAValue(t *testing.T) {
	a, b := sum.Make(), sum.Make()
	if a != b {
		t.Fatal("two tables differ")
	}
	clear(a[:])
	if b == a || sum.Make() != b || b.Sum([]byte("123456789")) != 0xcbf43926 || sum.Step(0, 1) != 0x77073096 {
		t.Fatal("a change of one table is seen elsewhere")
	}
}

func TestSeal(t *testing.T) {
	s := sum.Make()
	if got := s.Seal([]byte("123456789")); !bytes.Equal(got, []byte("123456789\x26\x39\xf4\xcb")) {
		t.Fatalf("%x", got)
	}
	if got := s.Seal(nil); !bytes.Equal(got, make([]byte, 4)) {
		t.Fatalf("%x", got)
	}
	for n := range 600 {
		p := sample(n)
		q, e := s.Open(s.Seal(p))
		if e != api.OK || !bytes.Equal(p, q) {
			t.Fatalf("%d bytes: error %d", n, e)
		}
	}
}

func wantOpen(t *testing.T, s sum.Table, p []byte, want api.Errno) {
	t.Helper()
	q, e := s.Open(p)
	if e != want || e != api.OK && q != nil {
		t.Fatalf("Open(%x): %x, error %d, want %d", p, q, e, want)
	}
}

func TestOpenRefuses(t *testing.T) {
	s := sum.Make()
	wantOpen(t, s, nil, api.ErrForm)
	for n := range 4 {
		wantOpen(t, s, make([]byte, n), api.ErrForm)
		wantOpen(t, s, []byte{1, 2, 3}[:n], api.ErrForm)
	}
	wantOpen(t, s, []byte{0, 0, 0, 0}, api.OK)
	for i := range 4 {
		p := make([]byte, 4)
		p[i] = 1
		wantOpen(t, s, p, api.ErrCorrupt)
	}
	sealed := s.Seal(sample(30))
	wantOpen(t, s, sealed[:len(sealed)-1], api.ErrCorrupt)
	wantOpen(t, s, sealed[1:], api.ErrCorrupt)
	wantOpen(t, s, append(sealed, 0), api.ErrCorrupt)
	wantOpen(t, s, []byte("123456789\xcb\xf4\x39\x26"), api.ErrCorrupt)
}

// flip inverts the bits that mask has, from bit on.
func flip(p []byte, bit int, mask uint32) []byte {
	q := bytes.Clone(p)
	for k := range 32 {
		if mask>>k&1 == 1 {
			q[(bit+k)/8] ^= 1 << ((bit + k) % 8)
		}
	}
	return q
}

func TestShortBurstsAreDetected(t *testing.T) {
	s := sum.Make()
	for _, n := range []int{0, 1, 2, 5, 60} {
		sealed := s.Seal(sample(n))
		for bit := range 8 * len(sealed) {
			for mask := uint32(1); mask < 1<<9; mask++ {
				if bit+9 <= 8*len(sealed) {
					wantOpen(t, s, flip(sealed, bit, mask), api.ErrCorrupt)
				}
			}
		}
	}
}

func TestLongBurstsAreDetected(t *testing.T) {
	s := sum.Make()
	r := rand.New(rand.NewSource(1))
	for _, n := range []int{0, 1, 3, 28, 508} {
		sealed := s.Seal(sample(n))
		for bit := range 8*len(sealed) - 31 {
			masks := []uint32{1, 1 << 31, 1<<31 | 1, 0xffffffff, 0xedb88320, 0x82608edb, 0x04c11db7}
			for range 20 {
				masks = append(masks, r.Uint32()|1)
			}
			for _, mask := range masks {
				wantOpen(t, s, flip(sealed, bit, mask), api.ErrCorrupt)
			}
		}
	}
}

func TestMemoryIsNotShared(t *testing.T) {
	s := sum.Make()
	backing := bytes.Repeat([]byte{9}, 32)
	sealed := s.Seal(backing[:10])
	s.Sum(backing[:10], backing[10:12])
	if !bytes.Equal(backing, bytes.Repeat([]byte{9}, 32)) {
		t.Fatal("the argument or its spare capacity was changed")
	}
	clear(backing)
	kept := bytes.Clone(sealed)
	p, e := s.Open(sealed)
	if e != api.OK || !bytes.Equal(p, bytes.Repeat([]byte{9}, 10)) || !bytes.Equal(sealed, kept) {
		t.Fatal(p, e)
	}
	clear(p[:cap(p)])
	if !bytes.Equal(sealed, kept) {
		t.Fatal("what Open returns shares memory with its argument")
	}
	q, _ := s.Open(sealed)
	clear(sealed[:cap(sealed)])
	if !bytes.Equal(q, bytes.Repeat([]byte{9}, 10)) {
		t.Fatal("what Open returns shares memory with its argument")
	}
}

// TestSameArgumentsSameResults calls each function again after others (P2).
func TestSameArgumentsSameResults(t *testing.T) {
	s := sum.Make()
	p := sample(100)
	first, sealed := s.Sum(p), s.Seal(p)
	for n := range 50 {
		s.Open(s.Seal(sample(n)))
		s.Open(sample(n))
		sum.Step(uint32(n), byte(n))
		q, e := s.Open(sealed)
		if s.Sum(p) != first || !bytes.Equal(s.Seal(p), sealed) || e != api.OK || !bytes.Equal(q, p) || s != sum.Make() {
			t.Fatal(n)
		}
	}
}
