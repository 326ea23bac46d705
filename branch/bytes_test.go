package branch_test

import (
	"bytes"
	"math"
	"math/rand"
	"slices"
	"strconv"
	"strings"
	"testing"

	"hourglass/api"
	"hourglass/branch"
	"hourglass/op"
	"hourglass/past"
	"hourglass/step"
	"hourglass/tape"
	"hourglass/trial"
)

// laid writes what a book would be with these branches.
func laid(stamp, current, count uint64, branches ...[]byte) []byte {
	w := new(tape.Writer).Num(stamp).Num(current).Num(count)
	return append(w.Bytes(), slices.Concat(branches...)...)
}

// named writes a branch.
func named(name string, p []byte) []byte {
	return new(tape.Writer).Text(name).Text(string(p)).Bytes()
}

// taken returns a past with these entries.
func taken(t *testing.T, frozen uint32, l ...step.Stamped) *past.Past {
	t.Helper()
	p, e := past.New(trial.Right(t, trial.Little), frozen)
	if e != api.OK {
		t.Fatal(e)
	}
	if _, e := p.Take(l); e != api.OK {
		t.Fatal(e)
	}
	return p
}

func parsed(t *testing.T, p []byte) *branch.Book {
	t.Helper()
	b, e := branch.Parse(p)
	if e != api.OK || !bytes.Equal(b.Bytes(), p) {
		t.Fatalf("Parse: %v, error %d", b, e)
	}
	return b
}

func wantNoParse(t *testing.T, what string, p []byte) {
	t.Helper()
	if b, e := branch.Parse(p); b != nil || e != api.ErrForm {
		t.Errorf("%s: %v, error %d, want ErrForm", what, b, e)
	}
}

// wantParse expects that Parse and Bytes are the inverse of each other.
func wantParse(t *testing.T, b *branch.Book) {
	t.Helper()
	if !branch.Same(parsed(t, b.Bytes()), b) {
		t.Error("Parse of Bytes is another book")
	}
}

func TestBytes(t *testing.T) {
	b := started(t)
	empty := b.Past("trunk").Bytes()
	length := []byte{byte(len(empty))}
	if len(empty) > 127 {
		length = []byte{byte(len(empty)) | 128, byte(len(empty) >> 7)}
	}
	want := slices.Concat([]byte{0, 0, 1, 5}, []byte("trunk"), length, empty)
	if got := b.Bytes(); !bytes.Equal(got, want) {
		t.Errorf("% x, want % x", got, want)
	}
	wantParse(t, b)
	many(t, b, 300)
	trial.Fork(t, b, "x")
	trial.Switch(t, b, "x")
	trial.Do(t, b, 301, trial.Add("k1"))
	trial.WantUndo(t, b, 7, 0, api.OK)
	trial.Fork(t, b, "y")
	want = laid(301, 1, 3, named("trunk", b.Past("trunk").Bytes()), named("x", b.Past("x").Bytes()), named("y", b.Past("y").Bytes()))
	if got := b.Bytes(); !bytes.Equal(got, want) || !bytes.Equal(got[:4], []byte{0xad, 2, 1, 3}) {
		t.Errorf("% x, want % x", got, want)
	}
	wantParse(t, b)
	b.Freeze()
	wantParse(t, b)
}

// full has all branches that there can be, with names of all lengths.
func full(t *testing.T) *branch.Book {
	t.Helper()
	b := started(t)
	trial.Do(t, b, 1, trial.Add("a"))
	for i := range api.MaxBranch - 1 {
		name := strings.Repeat("n", api.MaxName-4*i)
		trial.Fork(t, b, name)
		trial.Switch(t, b, name)
		trial.Do(t, b, b.Stamp()+1, trial.Rename("k"+strconv.Itoa(i)))
	}
	return b
}

func TestBytesOfAllBranches(t *testing.T) {
	b := full(t)
	wantParse(t, b)
	p := b.Bytes()
	if p[1] != api.MaxBranch-1 || p[2] != api.MaxBranch {
		t.Errorf("% x", p[:3])
	}
	trial.Switch(t, b, "trunk")
	wantParse(t, b)
}

// TestParsed: what is read goes on as before.
func TestParsed(t *testing.T) {
	b := started(t)
	trial.Do(t, b, 1, trial.Add("a"))
	trial.Fork(t, b, "x")
	trial.Do(t, b, 2, trial.Add("b"))
	trial.Switch(t, b, "x")
	trial.Do(t, b, 3, trial.Add("c"))
	trial.WantUndo(t, b, 1, 0, api.OK)
	b = parsed(t, b.Bytes())
	wantNames(t, b, 3, "x", "trunk", "x")
	wantPast(t, b, "trunk", 0, live(1, trial.Add("a")), live(2, trial.Add("b")))
	wantPast(t, b, "x", 0, dead(1, trial.Add("a")), live(3, trial.Add("c")))
	trial.WantMerge(t, b, "trunk", 0, api.OK)
	trial.Do(t, b, 4, trial.Drop(2))
	wantNow(t, b, trial.Little+" module c { }")
}

// TestLastStamp: 2^31 - 1 is given, and no other one after it.
func TestLastStamp(t *testing.T) {
	const last = math.MaxInt32
	b := parsed(t, laid(last-1, 0, 1, named("trunk", taken(t, 0).Bytes())))
	wantUnchanged(t, b, func() { trial.WantDo(t, b, trial.Rename("main"), api.ErrClash) })
	trial.Do(t, b, last, trial.Add("x"))
	wantNames(t, b, last, "trunk", "trunk")
	wantParse(t, b)
	wantUnchanged(t, b, func() {
		trial.WantDo(t, b, trial.Rename("k"), api.ErrFull)
		trial.WantDo(t, b, trial.Rename("main"), api.ErrFull) // not ErrClash, whose number is greater
		trial.WantDo(t, b, op.Op{Kind: op.DropModule, A: 2}, api.ErrFull)
		trial.WantDo(t, b, op.Op{}, api.ErrArg) // of errors without an order, the one with the smallest number
		trial.WantDo(t, b, trial.Drop(5), api.ErrNone)
	})
	trial.Fork(t, b, "x")
	trial.Switch(t, b, "x")
	trial.WantDo(t, b, trial.Rename("k"), api.ErrFull)
	trial.WantUndo(t, b, last, 0, api.OK)
	trial.WantRedo(t, b, last, 0, api.OK)
	b.Freeze()
	wantPast(t, b, "trunk", last)
	trial.WantDo(t, b, trial.Rename("k"), api.ErrFull)
	trial.WantDo(t, b, op.Op{}, api.ErrArg)
	wantNow(t, b, trial.Little+" module x { }")
}

// TestMergeOfOthers: of a book that was read, the branches may be frozen up to
// different stamps.
func TestMergeOfOthers(t *testing.T) {
	old := taken(t, 2, step.Stamped{Stamp: 4, Op: trial.Add("a")}, step.Stamped{Stamp: 6, Op: trial.Add("b")})
	p := laid(9, 0, 3, named("new", taken(t, 5).Bytes()), named("old", old.Bytes()), named("last", taken(t, 9).Bytes()))
	b := parsed(t, p)
	wantUnchanged(t, b, func() { trial.WantMerge(t, b, "old", 0, api.ErrFrozen) })
	trial.Switch(t, b, "old")
	wantUnchanged(t, b, func() { trial.WantMerge(t, b, "new", 0, api.OK) })
	trial.Do(t, b, 10, trial.Add("c"))
	trial.WantUndo(t, b, 4, 0, api.OK)
	trial.Switch(t, b, "new")
	trial.WantMerge(t, b, "old", 0, api.OK)
	wantPast(t, b, "new", 5, live(6, trial.Add("b")), live(10, trial.Add("c")))
	b.Freeze()
	for _, name := range b.Names() {
		wantPast(t, b, name, 10)
	}
}

func TestParseErrors(t *testing.T) {
	x := taken(t, 0, step.Stamped{Stamp: 3, Op: trial.Add("x")}).Bytes()
	trunk, other := named("trunk", taken(t, 0).Bytes()), named("x", x)
	for _, p := range [][]byte{
		laid(0, 0, 1, trunk), laid(3, 0, 1, other), laid(3, 1, 2, trunk, other), laid(3, 0, 2, other, trunk),
		laid(math.MaxInt32, 0, 1, trunk), laid(5, 0, 1, named("a", taken(t, 5).Bytes())),
	} {
		parsed(t, p)
	}
	for what, p := range map[string][]byte{
		"nothing":                       nil,
		"only a stamp":                  {0},
		"no branch":                     laid(0, 0, 0),
		"no branch, but bytes":          laid(0, 0, 0, trunk),
		"an index that is too large":    laid(3, 2, 2, trunk, other),
		"an index of 1 of 1":            laid(0, 1, 1, trunk),
		"an index of 2^32":              laid(0, 1<<32, 1, trunk),
		"an index of 2^63":              laid(0, 1<<63, 1, trunk),
		"an index of 2^64 - 1":          laid(0, math.MaxUint64, 1, trunk),
		"a stamp of 2^31":               laid(1<<31, 0, 1, trunk),
		"a stamp of 2^32":               laid(1<<32, 0, 1, trunk),
		"a stamp of 2^32 + 3":           laid(1<<32+3, 0, 1, other),
		"a stamp above the last one":    laid(2, 0, 1, other),
		"the same in the second branch": laid(2, 0, 2, trunk, other),
		"a dead stamp above the last":   laid(2, 0, 1, named("x", append(x[:len(x)-1:len(x)-1], 0))),
		"frozen above the last":         laid(4, 0, 1, named("x", taken(t, 5).Bytes())),
		"a name twice":                  laid(3, 0, 2, other, other),
		"a name twice, with others":     laid(3, 0, 3, other, trunk, named("x", taken(t, 0).Bytes())),
		"too few branches":              laid(3, 0, 3, trunk, other),
		"too many branches":             laid(3, 0, 1, trunk, other),
		"more":                          laid(3, 0, 1, trunk, []byte{0}),
		"no past":                       laid(0, 0, 1, named("trunk", nil)),
		"a past with more":              laid(0, 0, 1, named("trunk", append(taken(t, 0).Bytes(), 0))),
		"a past with less":              laid(3, 0, 1, named("trunk", x[:len(x)-1])),
		"only a name":                   laid(0, 0, 1, new(tape.Writer).Text("trunk").Bytes()),
		"a name that is longer":         laid(0, 0, 1, []byte{200, 1}, []byte("trunk")),
		"a past that is longer":         laid(0, 0, 1, new(tape.Writer).Text("trunk").Num(1<<40).Bytes()),
		"a count of 2^64 - 1":           laid(0, 0, math.MaxUint64, trunk),
		"a stamp that is not short":     append([]byte{0x80, 0}, laid(0, 0, 1, trunk)[1:]...),
	} {
		wantNoParse(t, what, p)
	}
	for _, name := range trial.NoNames() {
		wantNoParse(t, "the name "+name, laid(3, 0, 2, trunk, named(name, x)))
	}
}

// TestParseOfMany: up to MaxBranch branches.
func TestParseOfMany(t *testing.T) {
	var l [][]byte
	for i := range api.MaxBranch + 1 {
		l = append(l, named("b"+strconv.Itoa(i), taken(t, 0).Bytes()))
	}
	parsed(t, laid(0, api.MaxBranch-1, api.MaxBranch, l[:api.MaxBranch]...))
	wantNoParse(t, "one too many", laid(0, 0, api.MaxBranch+1, l...))
	wantNoParse(t, "an index too many", laid(0, api.MaxBranch, api.MaxBranch, l[:api.MaxBranch]...))
}

// TestParseIsTheInverse: of whatever bytes, Parse accepts those only that Bytes
// returns.
func TestParseIsTheInverse(t *testing.T) {
	b := started(t)
	trial.Do(t, b, 1, trial.Add("x"))
	trial.Fork(t, b, "other")
	trial.Do(t, b, 2, trial.Rename("k"))
	trial.WantUndo(t, b, 1, 0, api.OK)
	trial.Switch(t, b, "other")
	whole := b.Bytes()
	below := rand.New(rand.NewSource(1)).Intn
	accepted := 0
	try := func(p []byte) {
		t.Helper()
		before := slices.Clone(p)
		b, e := branch.Parse(p)
		if !bytes.Equal(p, before) {
			t.Errorf("Parse has changed % x", before)
		}
		if e != api.OK && (b != nil || e != api.ErrForm) {
			t.Errorf("Parse of % x: %v, error %d", p, b, e)
		}
		if e != api.OK {
			return
		}
		accepted++
		if !bytes.Equal(b.Bytes(), p) {
			t.Errorf("Parse of % x has the Bytes % x", p, b.Bytes())
		}
		if !slices.Contains(b.Names(), b.Current()) {
			t.Errorf("Parse of % x: %s of %q", p, b.Current(), b.Names())
		}
	}
	for i := range whole {
		try(whole[:i])
		for range 20 {
			p := slices.Clone(whole)
			p[i] = byte(below(256))
			try(p)
		}
		p := slices.Clone(whole)
		p[i] ^= 1 << below(8)
		try(p)
		try(slices.Delete(slices.Clone(whole), i, i+1))
		try(slices.Insert(slices.Clone(whole), i, byte(below(256))))
	}
	if accepted < 100 {
		t.Error("only", accepted, "were accepted")
	}
}
