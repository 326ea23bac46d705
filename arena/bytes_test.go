package arena_test

import (
	"bytes"
	"math"
	"math/rand"
	"strings"
	"testing"

	"hourglass/api"
	"hourglass/arena"
	"hourglass/tape"
)

func wantRefused(t *testing.T, what string, p []byte) {
	t.Helper()
	if a, e := arena.Parse(p); a != nil || e != api.ErrForm {
		t.Errorf("%s: Parse returns %v, error %d", what, a, e)
	}
}

// wantParsed checks that Parse is the inverse of Bytes, in both directions.
func wantParsed(t *testing.T, a *arena.Arena, p []byte) {
	t.Helper()
	if got := a.Bytes(); !bytes.Equal(got, p) {
		t.Fatalf("Bytes %x, want %x", got, p)
	}
	b, e := arena.Parse(p)
	if e != api.OK || !arena.Same(a, b) || !bytes.Equal(b.Bytes(), p) {
		t.Fatalf("Parse of %x: error %d", p, e)
	}
}

func TestBytesByHand(t *testing.T) {
	a := arena.New()
	wantParsed(t, a, []byte{1, 1, arena.Program, 0, 0, 0, 0, 0})
	a.Put(3, api.Node{Kind: arena.Func, Name: "f", Num: -1, Type: arena.Truth, Ref: 300, Kids: []api.ID{300, 0, 3}})
	a.Put(403, api.Node{Kind: 255, Num: 64, Type: 254})
	want := []byte{
		3,
		1, arena.Program, 0, 0, 0, 0, 0,
		2, arena.Func, 1, 'f', 1, arena.Truth, 0xac, 2, 3, 0xac, 2, 0, 3,
		0x90, 3, 255, 0, 0x80, 1, 254, 0, 0,
	}
	wantParsed(t, a, want)
	a.Drop(1)
	want = append([]byte{2, 3}, want[9:]...) // the first ID is no longer 1
	wantParsed(t, a, want)
	a.Drop(3)
	a.Drop(403)
	wantParsed(t, a, []byte{0})
}

func TestBytesOfExtremes(t *testing.T) {
	a := arena.New()
	n := api.Node{
		Kind: 255, Name: strings.Repeat("\xff", api.MaxName), Num: math.MinInt64, Type: 255, Ref: math.MaxUint64,
		Kids: []api.ID{math.MaxUint64, 1, 0},
	}
	a.Put(math.MaxUint64, n)
	n.Num, n.Name = math.MaxInt64, "\x00\n"
	a.Put(math.MaxUint64-1, n)
	wantParsed(t, a, a.Bytes())
	wantParsed(t, sum(t), sum(t).Bytes())
}

func TestParseOfLongNames(t *testing.T) {
	for _, size := range []int{0, 1, api.MaxName - 1, api.MaxName} {
		a := arena.New()
		a.Put(2, api.Node{Name: strings.Repeat("n", size)})
		wantParsed(t, a, a.Bytes())
	}
	for _, size := range []int{api.MaxName + 1, 127, 128, 1000} {
		a := arena.New()
		a.Put(2, api.Node{Name: strings.Repeat("n", size)})
		wantRefused(t, "a long name", a.Bytes())
	}
}

// nodes returns the encoding of childless nodes with these differences of IDs.
func nodes(steps ...uint64) []byte {
	w := new(tape.Writer).Num(uint64(len(steps)))
	for _, step := range steps {
		w.Num(step).Byte(arena.Int).Text("").Int(0).Byte(0).Num(0).Num(0)
	}
	return w.Bytes()
}

func TestParseOfIDs(t *testing.T) {
	for _, steps := range [][]uint64{{1}, {2}, {1, 1}, {7, 1, 300}, {math.MaxUint64}, {1, math.MaxUint64 - 1}, {math.MaxUint64 - 1, 1}} {
		a, e := arena.Parse(nodes(steps...))
		if e != api.OK || a.Len() != len(steps) {
			t.Errorf("%v: error %d", steps, e)
			continue
		}
		var id uint64
		for i, got := range a.IDs() {
			id += steps[i]
			if got != api.ID(id) {
				t.Errorf("%v: ID %d, want %d", steps, got, id)
			}
		}
	}
	for _, steps := range [][]uint64{{0}, {1, 0}, {0, 1}, {5, 1, 0, 1}, {1, math.MaxUint64}, {2, math.MaxUint64}, {math.MaxUint64, 1}, {1 << 63, 1 << 63}, {1 << 63, 1<<63 + 1}} {
		wantRefused(t, "IDs that do not increase", nodes(steps...))
	}
}

func TestParseOfManyNodes(t *testing.T) {
	steps := make([]uint64, api.MaxNodes+1)
	for i := range steps {
		steps[i] = 1
	}
	if a, e := arena.Parse(nodes(steps[1:]...)); e != api.OK || a.Len() != api.MaxNodes || a.Put(api.MaxNodes+1, api.Node{}) != api.ErrFull {
		t.Errorf("as many as there can be: error %d", e)
	}
	wantRefused(t, "one too many", nodes(steps...))
	wantRefused(t, "more nodes than there are", new(tape.Writer).Num(math.MaxUint64).Bytes())
}

func TestParseOfOtherBytes(t *testing.T) {
	p := sum(t).Bytes()
	for n := range p {
		wantRefused(t, "not all bytes", p[:n])
	}
	wantRefused(t, "one byte more", append(bytes.Clone(p), 0))
	wantRefused(t, "nothing", nil)
	long := func() *tape.Writer { return new(tape.Writer).Num(1).Num(1).Byte(arena.Program).Text("") }
	cases := map[string][]byte{
		"a long number of nodes":     append([]byte{0x81, 0}, arena.New().Bytes()[1:]...),
		"a long ID":                  append([]byte{1, 0x81, 0}, arena.New().Bytes()[2:]...),
		"a long Num":                 append(long().Bytes(), 0x80, 0, 0, 0, 0),
		"a long Ref":                 append(long().Bytes(), 0, 0, 0x80, 0, 0),
		"a long number of children":  append(long().Bytes(), 0, 0, 0, 0x80, 0),
		"a long child":               append(long().Bytes(), 0, 0, 0, 1, 0x81, 0),
		"no child":                   append(long().Bytes(), 0, 0, 0, 1),
		"a child too few":            append(long().Bytes(), 0, 0, 0, 3, 2, 3),
		"a child too many":           append(long().Bytes(), 0, 0, 0, 1, 2, 3),
		"an immense row of children": append(long().Bytes(), 0, 0, 0, 0xff, 0xff, 0xff, 0xff, 0xff, 0xff, 0xff, 0xff, 0xff, 1),
		"a Ref above 2^64 - 1":       append(long().Bytes(), 0, 0, 0xff, 0xff, 0xff, 0xff, 0xff, 0xff, 0xff, 0xff, 0xff, 2, 0),
	}
	for name, p := range cases {
		wantRefused(t, name, p)
	}
	wantParsed(t, arena.New(), append(long().Bytes(), 0, 0, 0, 0))
}

// TestParseOfChangedBytes: what Parse accepts is what Bytes returns.
func TestParseOfChangedBytes(t *testing.T) {
	random := rand.New(rand.NewSource(1))
	accepted := 0
	for range 20000 {
		p := sum(t).Bytes()
		for range 1 + random.Intn(3) {
			p[random.Intn(len(p))] = byte(random.Intn(300) >> random.Intn(8))
		}
		if random.Intn(4) == 0 {
			p = p[:random.Intn(len(p))]
		}
		a, e := arena.Parse(p)
		if e == api.OK {
			accepted++
			wantParsed(t, a, p)
		} else if a != nil || e != api.ErrForm {
			t.Fatalf("error %d, %v", e, a)
		}
	}
	if accepted < 1000 {
		t.Fatalf("only %d were accepted", accepted)
	}
}

func TestParseKeepsNoArgument(t *testing.T) {
	p := append(sum(t).Bytes(), 1, 2, 3)
	kept := bytes.Clone(p)
	a, e := arena.Parse(p[:len(p)-3])
	if e != api.OK || !bytes.Equal(p, kept) {
		t.Fatalf("error %d, or the argument was changed", e)
	}
	clear(p)
	if !arena.Same(a, sum(t)) {
		t.Fatal("the argument is kept")
	}
	b, _ := arena.Parse(kept[:len(kept)-3])
	b.Drop(3)
	if !arena.Same(a, sum(t)) {
		t.Fatal("two results are one")
	}
	wantParent(t, a, 9, 7, 1)
}
