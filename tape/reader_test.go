package tape_test

import (
	"bytes"
	"math"
	"math/big"
	"math/rand"
	"slices"
	"strings"
	"testing"

	"hourglass/api"
	"hourglass/tape"
)

// wantValid checks that a Reader is valid and has that many bytes left.
func wantValid(t *testing.T, r *tape.Reader, left int) {
	t.Helper()
	want := api.OK
	if left > 0 {
		want = api.ErrForm
	}
	if got := r.Left(); got != left {
		t.Fatalf("%d bytes left, want %d", got, left)
	}
	if e := r.Done(); e != want {
		t.Fatalf("Done: error %d, want %d", e, want)
	}
}

// wantInvalid checks that a Reader is invalid and stays so.
func wantInvalid(t *testing.T, r *tape.Reader) {
	t.Helper()
	for range 2 {
		if r.Left() != 0 {
			t.Fatalf("%d bytes left", r.Left())
		}
		if e := r.Done(); e != api.ErrForm {
			t.Fatalf("Done: error %d", e)
		}
		if r.Num(0) != 0 || r.Num(math.MaxUint64) != 0 || r.Int() != 0 || r.Text(-1) != "" || r.Text(math.MaxInt) != "" || r.Byte() != 0 || r.Bool() {
			t.Fatal("an invalid Reader returns something")
		}
	}
}

func TestReadNothing(t *testing.T) {
	wantValid(t, tape.Read(nil), 0)
	wantValid(t, tape.Read([]byte{}), 0)
	steps := map[string]func(r *tape.Reader) bool{
		"Num":  func(r *tape.Reader) bool { return r.Num(math.MaxUint64) == 0 },
		"Int":  func(r *tape.Reader) bool { return r.Int() == 0 },
		"Text": func(r *tape.Reader) bool { return r.Text(math.MaxInt) == "" },
		"Byte": func(r *tape.Reader) bool { return r.Byte() == 0 },
		"Bool": func(r *tape.Reader) bool { return !r.Bool() },
	}
	for name, step := range steps {
		r := tape.Read(nil)
		if !step(r) {
			t.Errorf("%s of nothing returns something", name)
		}
		wantInvalid(t, r)
	}
}

func TestReadWhatWasWritten(t *testing.T) {
	for _, n := range numbers() {
		r := tape.Read(new(tape.Writer).Num(n).Bytes())
		if got := r.Num(math.MaxUint64); got != n {
			t.Fatalf("%d, want %d", got, n)
		}
		wantValid(t, r, 0)
	}
	for _, n := range integers() {
		r := tape.Read(new(tape.Writer).Int(n).Bytes())
		if got := r.Int(); got != n {
			t.Fatalf("%d, want %d", got, n)
		}
		wantValid(t, r, 0)
	}
	for b := range 256 {
		r := tape.Read([]byte{byte(b)})
		if got := r.Byte(); got != byte(b) {
			t.Fatalf("%d, want %d", got, b)
		}
		wantValid(t, r, 0)
	}
	for _, s := range []string{"", "a", "\x00", "é\xff\x80", strings.Repeat("x", 127), strings.Repeat("y", 128), strings.Repeat("z", 70000)} {
		r := tape.Read(new(tape.Writer).Text(s).Bytes())
		if got := r.Text(len(s)); got != s {
			t.Fatalf("%q, want %q", got, s)
		}
		wantValid(t, r, 0)
	}
}

func TestReadFromTheBeginning(t *testing.T) {
	p := new(tape.Writer).Num(300).Int(-1).Text("ab").Byte(200).Bool(true).Bool(false).Bytes()
	r := tape.Read(p)
	wantValid(t, r, 9)
	if n := r.Num(300); n != 300 {
		t.Fatal(n)
	}
	wantValid(t, r, 7)
	if n := r.Int(); n != -1 {
		t.Fatal(n)
	}
	wantValid(t, r, 6)
	if s := r.Text(2); s != "ab" {
		t.Fatal(s)
	}
	wantValid(t, r, 3)
	if b := r.Byte(); b != 200 {
		t.Fatal(b)
	}
	wantValid(t, r, 2)
	if !r.Bool() {
		t.Fatal("false")
	}
	wantValid(t, r, 1)
	if r.Bool() {
		t.Fatal("true")
	}
	wantValid(t, r, 0)
}

// TestReadLongRows writes random rows of all kinds and reads them again.
func TestReadLongRows(t *testing.T) {
	random := rand.New(rand.NewSource(2))
	for range 200 {
		w := new(tape.Writer)
		var checks []func(r *tape.Reader) bool
		for range random.Intn(40) {
			n := random.Uint64() >> random.Intn(64)
			s := strings.Repeat("s", random.Intn(200))
			switch random.Intn(5) {
			case 0:
				w.Num(n)
				checks = append(checks, func(r *tape.Reader) bool { return r.Num(n) == n })
			case 1:
				w.Int(int64(n))
				checks = append(checks, func(r *tape.Reader) bool { return r.Int() == int64(n) })
			case 2:
				w.Text(s)
				checks = append(checks, func(r *tape.Reader) bool { return r.Text(len(s)) == s })
			case 3:
				w.Byte(byte(n))
				checks = append(checks, func(r *tape.Reader) bool { return r.Byte() == byte(n) })
			case 4:
				w.Bool(n&1 == 1)
				checks = append(checks, func(r *tape.Reader) bool { return r.Bool() == (n&1 == 1) })
			}
		}
		r := tape.Read(w.Bytes())
		for i, check := range checks {
			if !check(r) {
				t.Fatalf("item %d of %d", i, len(checks))
			}
		}
		wantValid(t, r, 0)
	}
}

// expectedNum is what the document says of the Num at the front of p: its
// value and its size, or false.
func expectedNum(p []byte, most uint64) (uint64, int, bool) {
	size := 1 + slices.IndexFunc(p, func(b byte) bool { return b < 0x80 })
	if size == 0 || size > 1 && p[size-1] == 0 {
		return 0, 0, false
	}
	n := new(big.Int)
	for i := range size {
		group := big.NewInt(int64(p[i] & 0x7f))
		n.Or(n, group.Lsh(group, uint(7*i)))
	}
	if n.Cmp(new(big.Int).SetUint64(most)) > 0 {
		return 0, 0, false
	}
	return n.Uint64(), size, true
}

func checkNum(t *testing.T, p []byte, most uint64) {
	t.Helper()
	r := tape.Read(p)
	want, size, ok := expectedNum(p, most)
	if got := r.Num(most); got != want {
		t.Fatalf("Num(%d) of %x: %d, want %d", most, p, got, want)
	}
	if ok {
		wantValid(t, r, len(p)-size)
	} else {
		wantInvalid(t, r)
	}
}

func TestNumOfAllShortBytes(t *testing.T) {
	for a := range 256 {
		for b := range 256 {
			for _, most := range []uint64{0, 1, 127, 128, 299, 300, math.MaxUint64} {
				checkNum(t, []byte{byte(a)}, most)
				checkNum(t, []byte{byte(a), byte(b)}, most)
			}
			checkNum(t, []byte{byte(a), byte(b), 1}, math.MaxUint64)
		}
	}
}

// TestNumOfLongBytes has numbers around 2^64, incomplete ones and such as end
// with a zero byte.
func TestNumOfLongBytes(t *testing.T) {
	for size := range 30 {
		for _, fill := range []byte{0x80, 0x81, 0xc0, 0xff} {
			front := bytes.Repeat([]byte{fill}, size)
			checkNum(t, front, math.MaxUint64)
			for last := range 256 {
				for _, most := range []uint64{0, 1 << 63, 1<<63 - 1, math.MaxUint64 - 1, math.MaxUint64} {
					checkNum(t, append(slices.Clone(front), byte(last)), most)
					checkNum(t, append(slices.Clone(front), byte(last), 0), most)
					checkNum(t, append(slices.Clone(front), byte(last), 1, 1), most)
				}
			}
		}
	}
}

func TestNumOfRandomBytes(t *testing.T) {
	random := rand.New(rand.NewSource(3))
	for range 50000 {
		p := make([]byte, random.Intn(14))
		for i := range p {
			p[i] = byte(random.Intn(256)) | byte(random.Intn(8)/2<<7)
		}
		checkNum(t, p, random.Uint64()>>random.Intn(64))
		checkNum(t, p, math.MaxUint64)
	}
}

func TestNumAboveMost(t *testing.T) {
	for _, n := range numbers() {
		p := new(tape.Writer).Num(n).Byte(1).Bytes()
		for _, most := range []uint64{n - 1, n, n + 1} { // n - 1 and n + 1 may wrap around
			checkNum(t, p, most)
		}
	}
}

// rest adds enough bytes for a text of some length, unless that would complete
// an incomplete number.
func rest(p []byte) []byte {
	if p[len(p)-1] >= 0x80 {
		return p
	}
	return append(slices.Clone(p), make([]byte, 400)...)
}

func TestNumIsRefused(t *testing.T) {
	cases := map[string][]byte{
		"incomplete":             {0x80},
		"incomplete after two":   {0xac, 0x82},
		"incomplete after ten":   bytes.Repeat([]byte{0xff}, 10),
		"two bytes for 0":        {0x80, 0},
		"two bytes for 44":       {0xac, 0},
		"three bytes for 300":    {0xac, 0x82, 0},
		"2^64":                   {0x80, 0x80, 0x80, 0x80, 0x80, 0x80, 0x80, 0x80, 0x80, 2},
		"2^70":                   {0x80, 0x80, 0x80, 0x80, 0x80, 0x80, 0x80, 0x80, 0x80, 0x80, 1},
		"eleven bytes for 2^63":  {0x80, 0x80, 0x80, 0x80, 0x80, 0x80, 0x80, 0x80, 0x80, 0x81, 0},
		"ten bytes for a little": {0x81, 0x80, 0x80, 0x80, 0x80, 0x80, 0x80, 0x80, 0x80, 0},
	}
	for name, p := range cases {
		t.Run(name, func(t *testing.T) {
			reads := []func(r *tape.Reader) bool{
				func(r *tape.Reader) bool { return r.Num(math.MaxUint64) == 0 },
				func(r *tape.Reader) bool { return r.Int() == 0 },
				func(r *tape.Reader) bool { return r.Text(math.MaxInt) == "" },
			}
			for _, read := range reads {
				r := tape.Read(rest(p))
				if !read(r) {
					t.Fatal("something is returned")
				}
				wantInvalid(t, r)
			}
		})
	}
}

func TestTextLength(t *testing.T) {
	p := new(tape.Writer).Text("abc").Byte(7).Bytes()
	cases := []struct {
		most int
		ok   bool
	}{
		{math.MinInt, false}, {-1, false}, {0, false}, {2, false},
		{3, true}, {4, true}, {100, true}, {math.MaxInt, true},
	}
	for _, c := range cases {
		r := tape.Read(p)
		s := r.Text(c.most)
		if c.ok {
			if s != "abc" {
				t.Fatalf("Text(%d): %q", c.most, s)
			}
			wantValid(t, r, 1)
			continue
		}
		if s != "" {
			t.Fatalf("Text(%d): %q", c.most, s)
		}
		wantInvalid(t, r)
	}
	for _, most := range []int{math.MinInt, -1, 0, 1, math.MaxInt} {
		r := tape.Read([]byte{0, 9})
		if s := r.Text(most); s != "" {
			t.Fatalf("Text(%d): %q", most, s)
		}
		wantValid(t, r, 1) // below 0 counts as 0, which an empty text does not exceed
	}
}

func TestTextOfFewerBytes(t *testing.T) {
	whole := new(tape.Writer).Text(strings.Repeat("x", 200)).Bytes()
	for n := range whole {
		r := tape.Read(whole[:n])
		if s := r.Text(200); s != "" {
			t.Fatalf("%d bytes: %q", n, s)
		}
		wantInvalid(t, r)
	}
	for _, length := range []uint64{4, 1 << 31, 1<<63 - 1, 1 << 63, math.MaxUint64} {
		r := tape.Read(append(new(tape.Writer).Num(length).Bytes(), "abc"...))
		if s := r.Text(math.MaxInt); s != "" {
			t.Fatalf("length %d: %q", length, s)
		}
		wantInvalid(t, r)
	}
}

func TestBoolOfOtherBytes(t *testing.T) {
	for b := range 256 {
		r := tape.Read([]byte{byte(b), 1})
		if got := r.Bool(); got != (b == 1) {
			t.Fatalf("Bool of %d: %v", b, got)
		}
		if b <= 1 {
			wantValid(t, r, 1)
		} else {
			wantInvalid(t, r)
		}
	}
}

// TestInvalidStaysInvalid makes a Reader invalid in each way, with bytes left
// that could be read.
func TestInvalidStaysInvalid(t *testing.T) {
	p := []byte{5, 1, 1, 1, 1}
	breaks := map[string]func(r *tape.Reader){
		"Num above most":      func(r *tape.Reader) { r.Num(4) },
		"Text above most":     func(r *tape.Reader) { r.Text(4) },
		"Text of fewer bytes": func(r *tape.Reader) { r.Text(5) },
		"Bool":                func(r *tape.Reader) { r.Bool() },
	}
	for name, breaks := range breaks {
		t.Run(name, func(t *testing.T) {
			r := tape.Read(p)
			wantValid(t, r, len(p))
			breaks(r)
			wantInvalid(t, r)
		})
	}
}

func TestDoneChangesNothing(t *testing.T) {
	r := tape.Read([]byte{1, 2})
	for left := 2; left > 0; left-- {
		wantValid(t, r, left)
		wantValid(t, r, left)
		if r.Byte() != byte(3-left) {
			t.Fatal(left)
		}
	}
	wantValid(t, r, 0)
	wantValid(t, r, 0)
	r.Byte()
	wantInvalid(t, r)
}

func TestNilReader(t *testing.T) {
	wantInvalid(t, nil) // it returns what an invalid one does
}

func TestReadKeepsNoArgument(t *testing.T) {
	backing := append(new(tape.Writer).Text("abc").Num(300).Bytes(), 1, 2, 3)
	kept := bytes.Clone(backing)
	p := backing[:len(backing)-3]
	a, b := tape.Read(p), tape.Read(p)
	if a.Text(3) != "abc" || a.Num(300) != 300 || a.Done() != api.OK || !bytes.Equal(backing, kept) {
		t.Fatal("the argument or what lies after it was changed")
	}
	s := b.Text(3)
	clear(backing)
	if s != "abc" || b.Num(300) != 300 || b.Done() != api.OK {
		t.Fatal("the argument is retained")
	}
	wantInvalid(t, readAfter(kept[:len(p)]))
}

// readAfter returns a Reader that has read all of p and one Byte more, which
// lies in p's spare capacity.
func readAfter(p []byte) *tape.Reader {
	r := tape.Read(p)
	for range len(p) + 1 {
		r.Byte()
	}
	return r
}

func TestReadersAreIndependent(t *testing.T) {
	p := []byte{1, 2, 3}
	a, b := tape.Read(p), tape.Read(p)
	a.Num(0)
	wantInvalid(t, a)
	wantValid(t, b, 3)
	if b.Byte() != 1 {
		t.Fatal("another Reader's bytes are taken")
	}
	wantValid(t, tape.Read(p), 3)
}
