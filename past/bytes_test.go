package past_test

import (
	"bytes"
	"math"
	"math/rand"
	"slices"
	"strings"
	"testing"

	"hourglass/api"
	"hourglass/arena"
	"hourglass/op"
	"hourglass/past"
	"hourglass/step"
	"hourglass/tape"
	"hourglass/trial"
)

// laid writes what a past with these entries would be.
func laid(frozen uint64, base []byte, count uint64, entries ...[]byte) []byte {
	w := new(tape.Writer).Num(frozen).Text(string(base)).Num(count)
	return append(w.Bytes(), slices.Concat(entries...)...)
}

func entry(after uint64, o op.Op, live byte) []byte {
	return new(tape.Writer).Num(after).Text(string(o.Bytes())).Byte(live).Bytes()
}

func wantNoParse(t *testing.T, what string, b []byte) {
	t.Helper()
	if p, e := past.Parse(b); p != nil || e != api.ErrForm {
		t.Errorf("%s: %v, error %d, want ErrForm", what, p, e)
	}
}

// wantParse expects that Parse and Bytes are the inverse of each other.
func wantParse(t *testing.T, want *past.Past) {
	t.Helper()
	b := want.Bytes()
	p, e := past.Parse(b)
	if e != api.OK || !past.Same(p, want) || !arena.Same(p.Now(), want.Now()) || !bytes.Equal(p.Bytes(), b) {
		t.Errorf("Parse of Bytes: %v, error %d", p, e)
	}
}

func TestBytes(t *testing.T) {
	base := trial.Right(t, trial.Little).Bytes()
	p := started(t, trial.Little, 300)
	want := func(entries ...byte) {
		t.Helper()
		expected := slices.Concat([]byte{0xac, 2, byte(len(base))}, base, entries)
		if got := p.Bytes(); !bytes.Equal(got, expected) {
			t.Errorf("Bytes: % x, want % x", got, expected)
		}
		wantParse(t, p)
	}
	want(0)
	do(t, p, 301, trial.Rename("k"))
	want(1, 1, 5, 1, 2, 0, 1, 'k', 1)
	do(t, p, 600, trial.Add("x"))
	want(2, 1, 5, 1, 2, 0, 1, 'k', 1, 0xac, 2, 5, 10, 0, 0, 1, 'x', 1)
	wantUndo(t, p, 301, 0, api.OK)
	want(2, 1, 5, 1, 2, 0, 1, 'k', 0, 0xac, 2, 5, 10, 0, 0, 1, 'x', 1)
	p.Freeze(0)
	base = p.Base().Bytes()
	if got, want := p.Bytes(), laid(600, base, 0); !bytes.Equal(got, want) {
		t.Errorf("Bytes: % x, want % x", got, want)
	}
	wantParse(t, p)
}

func TestBytesOfMany(t *testing.T) {
	wantParse(t, full(t))
	p := started(t, trial.Little, 0)
	do(t, p, math.MaxUint32, trial.Add("x"))
	wantParse(t, p)
	p.Freeze(0)
	wantParse(t, p)
	wantTake(t, started(t, trial.Little, 0), nil, 0, api.OK)
	q := started(t, trial.Little, 3)
	wantTake(t, q, []step.Stamped{{Stamp: 9, Op: trial.Add("x")}, {Stamp: 4, Op: trial.Add("y")}, {Stamp: 6, Op: trial.Drop(4)}}, 0, api.OK)
	wantUndo(t, q, 9, 0, api.OK)
	wantParse(t, q)
	large, e := past.New(trial.Crowd(t, "module main { func main() int {", api.MaxNodes), 7)
	if e != api.OK {
		t.Fatal(e)
	}
	wantParse(t, large)
}

func TestParseErrors(t *testing.T) {
	base := trial.Right(t, trial.Little).Bytes()
	k, x := entry(1, trial.Rename("k"), 1), entry(2, trial.Add("x"), 1)
	for _, b := range [][]byte{laid(4, base, 2, k, x), laid(4, base, 2, x, k), laid(0, base, 1, entry(math.MaxUint32, trial.Add("x"), 1)), laid(math.MaxUint32-1, base, 1, k)} {
		p, e := past.Parse(b)
		if e != api.OK || !bytes.Equal(p.Bytes(), b) {
			t.Errorf("Parse: error %d", e)
		}
	}
	for what, b := range map[string][]byte{
		"nothing":                          nil,
		"only Frozen":                      {0},
		"no base":                          laid(0, nil, 0),
		"a Frozen of 2^32":                 laid(1<<32, base, 0),
		"a Frozen of 2^32 with the next":   laid(1<<32, base, 1, k),
		"a Frozen that is not short":       append([]byte{0x84, 0}, laid(4, base, 0)[1:]...),
		"a base with more":                 laid(4, append(slices.Clone(base), 0), 0),
		"a base with less":                 laid(4, base[:len(base)-1], 0),
		"too few entries":                  laid(4, base, 3, k, x),
		"too many entries":                 laid(4, base, 1, k, x),
		"more":                             laid(4, base, 1, k, []byte{0}),
		"an entry without Live":            laid(4, base, 1, k[:len(k)-1]),
		"an entry that is 2 live":          laid(4, base, 1, entry(1, trial.Rename("k"), 2)),
		"a frozen stamp":                   laid(4, base, 1, entry(0, trial.Rename("k"), 1)),
		"a frozen stamp that is dead":      laid(4, base, 1, entry(0, trial.Rename("k"), 0)),
		"a stamp of 2^32":                  laid(4, base, 1, entry(math.MaxUint32-3, trial.Rename("k"), 1)),
		"a stamp of 2^32 after 0":          laid(0, base, 1, entry(1<<32, trial.Rename("k"), 1)),
		"a stamp of 2^32 after the last":   laid(math.MaxUint32, base, 1, k),
		"a stamp of 2^64 - 1":              laid(4, base, 1, entry(math.MaxUint64, trial.Rename("k"), 1)),
		"a stamp twice":                    laid(4, base, 2, k, entry(1, trial.Rename("l"), 1)),
		"a stamp twice, of dead ones":      laid(4, base, 2, entry(1, trial.Rename("k"), 0), entry(1, trial.Rename("l"), 0)),
		"no operation":                     laid(4, base, 1, entry(1, op.Op{}, 1)),
		"no operation, but dead":           laid(4, base, 1, entry(1, op.Op{}, 0)),
		"a clash":                          laid(4, base, 1, entry(1, trial.Rename("main"), 1)),
		"a clash with the second":          laid(4, base, 2, x, entry(9, trial.Add("x"), 1)),
		"no such node":                     laid(4, base, 1, entry(1, trial.Drop(3), 1)),
		"what is needed is dead":           laid(4, base, 2, entry(2, trial.Add("x"), 0), entry(5, trial.Drop(6), 1)),
		"what is needed comes later":       laid(4, base, 2, entry(5, trial.Drop(6), 1), entry(2, trial.Add("x"), 1)),
		"a stamp of which an ID exists":    laid(4, trial.Moved(trial.Right(t, trial.Little), 5*65536-1).Bytes(), 1, entry(1, trial.Add("x"), 1)),
		"only a Program":                   laid(4, arena.New().Bytes(), 0),
		"a text that is longer than there": append(new(tape.Writer).Num(4).Num(1<<40).Bytes(), base...),
	} {
		wantNoParse(t, what, b)
	}
	for _, w := range trial.Wrongs(t, trial.Little) {
		wantNoParse(t, w.Why, laid(0, w.Arena.Bytes(), 0))
	}
}

// TestParseOfMany: up to MaxOps entries.
func TestParseOfMany(t *testing.T) {
	base := trial.Right(t, trial.Little).Bytes()
	var entries [][]byte
	for i := range uint64(api.MaxOps + 1) {
		entries = append(entries, entry(i+1, trial.Rename([]string{"k", "l"}[i%2]), byte(i%3/2)))
	}
	wantNoParse(t, "one too many", laid(7, base, api.MaxOps+1, entries...))
	wantNoParse(t, "far too many", laid(7, base, math.MaxUint64, entries...))
	b := laid(7, base, api.MaxOps, entries[:api.MaxOps]...)
	p, e := past.Parse(b)
	if e != api.OK || len(p.All()) != api.MaxOps || !bytes.Equal(p.Bytes(), b) {
		t.Errorf("MaxOps entries: error %d", e)
	}
}

// TestParseIsTheInverse: of whatever bytes, Parse accepts those only that Bytes
// returns.
func TestParseIsTheInverse(t *testing.T) {
	p := started(t, trial.Little, 300)
	do(t, p, 301, trial.Rename("k"))
	do(t, p, 307, trial.Add("x"))
	do(t, p, 310, op.Op{Kind: op.RenameModule, A: trial.Made(307), Name: strings.Repeat("y", api.MaxName)})
	wantUndo(t, p, 310, 0, api.OK)
	whole := p.Bytes()
	below := rand.New(rand.NewSource(1)).Intn
	accepted := 0
	try := func(b []byte) {
		t.Helper()
		before := slices.Clone(b)
		q, e := past.Parse(b)
		if !bytes.Equal(b, before) {
			t.Errorf("Parse has changed % x", before)
		}
		if e != api.OK && (q != nil || e != api.ErrForm) {
			t.Errorf("Parse of % x: %v, error %d", b, q, e)
		}
		if e != api.OK {
			return
		}
		accepted++
		if !bytes.Equal(q.Bytes(), b) {
			t.Errorf("Parse of % x has the Bytes % x", b, q.Bytes())
		}
		wantPast(t, q, q.Base(), q.Frozen(), q.All()...)
	}
	for i := range whole {
		try(whole[:i])
		for range 20 {
			b := slices.Clone(whole)
			b[i] = byte(below(256))
			try(b)
		}
		b := slices.Clone(whole)
		b[i] ^= 1 << below(8)
		try(b)
		try(slices.Delete(slices.Clone(whole), i, i+1))
		try(slices.Insert(slices.Clone(whole), i, byte(below(256))))
	}
	if accepted < 300 {
		t.Error("only", accepted, "were accepted")
	}
}
