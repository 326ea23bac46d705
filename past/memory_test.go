package past_test

import (
	"bytes"
	"slices"
	"testing"

	"hourglass/api"
	"hourglass/arena"
	"hourglass/past"
	"hourglass/step"
	"hourglass/trial"
)

// spoil changes an arena.
func spoil(a *arena.Arena) {
	for _, id := range a.IDs() {
		a.Put(id, api.Node{Kind: arena.Print, Name: "spoiled"})
	}
	a.Drop(2)
}

func spoilBytes(b []byte) {
	b = b[:cap(b)]
	for i := range b {
		b[i] = 0xee
	}
}

func spoilAll(l []past.Entry) {
	l = l[:cap(l)]
	for i := range l {
		l[i] = past.Entry{Stamp: 77, Op: rename("spoiled"), Live: i%2 == 0}
	}
}

func spoilLive(l []step.Stamped) {
	l = l[:cap(l)]
	for i := range l {
		l[i] = step.Stamped{Stamp: 77, Op: rename("spoiled")}
	}
}

// TestMemory: nothing that is passed in or returned changes a past afterwards.
func TestMemory(t *testing.T) {
	base := trial.Right(t, program)
	p, e := past.New(base, 4)
	if e != api.OK {
		t.Fatal(e)
	}
	spoil(base)
	wantPast(t, p, trial.Right(t, program), 4)
	l := make([]step.Stamped, 2, 9)
	l[0], l[1] = step.Stamped{Stamp: 9, Op: rename("k")}, step.Stamped{Stamp: 5, Op: add("x")}
	kept := slices.Clone(l[:cap(l)])
	wantTake(t, p, l, 0, api.OK)
	if !slices.Equal(l[:cap(l)], kept) {
		t.Error("Take has changed its argument")
	}
	spoilLive(l)
	do(t, p, 10, rename("l"))
	wantUndo(t, p, 9, 0, api.OK)
	want := []past.Entry{{Stamp: 9, Op: rename("k")}, {Stamp: 5, Op: add("x"), Live: true}, {Stamp: 10, Op: rename("l"), Live: true}}
	before := p.Bytes()
	for range 2 {
		spoil(p.Now())
		spoil(p.Base())
		spoilAll(p.All())
		spoilLive(p.Live())
		spoilBytes(p.Bytes())
		wantPast(t, p, trial.Right(t, program), 4, want...)
	}
	q, e := past.Parse(before)
	if e != api.OK {
		t.Fatal(e)
	}
	spoilBytes(before)
	wantPast(t, q, trial.Right(t, program), 4, want...)
	p.Freeze(0)
	spoil(p.Now())
	spoil(p.Base())
	wantNow(t, p, renamed("l")+" module x { }")
	wantUndo(t, q, 5, 0, api.OK)
}

// TestCopy: what is done to a copy does not change the original, nor the other
// way round.
func TestCopy(t *testing.T) {
	a := trial.Right(t, program)
	changes := map[string]func(p *past.Past){
		"Do":     func(p *past.Past) { do(t, p, 20, rename("z")) },
		"Undo":   func(p *past.Past) { wantUndo(t, p, 5, 0, api.OK) },
		"Redo":   func(p *past.Past) { wantRedo(t, p, 6, 0, api.OK) },
		"Take":   func(p *past.Past) { wantTake(t, p, []step.Stamped{{Stamp: 30, Op: add("z")}}, 0, api.OK) },
		"Freeze": func(p *past.Past) { p.Freeze(9) },
	}
	entries := []past.Entry{{Stamp: 5, Op: add("x"), Live: true}, {Stamp: 6, Op: rename("k")}, {Stamp: 7, Op: add("y"), Live: true}}
	for what, change := range changes {
		for _, original := range []bool{true, false} {
			p := started(t, program, 4)
			for _, e := range entries {
				do(t, p, e.Stamp, e.Op)
			}
			wantUndo(t, p, 6, 0, api.OK)
			q := p.Copy()
			if !past.Same(p, q) {
				t.Errorf("%s: a copy is not the same", what)
			}
			changed, other := q, p
			if original {
				changed, other = p, q
			}
			change(changed)
			wantPast(t, other, a, 4, entries...)
			if past.Same(p, q) {
				t.Errorf("%s: changes both", what)
			}
			do(t, other, 20, drop(7))
			next := other.Copy()
			do(t, next, 21, rename("one"))
			do(t, other, 21, rename("two"))
			wantNow(t, other, renamed("two")+" module x { }")
			drop := past.Entry{Stamp: 20, Op: drop(7), Live: true}
			wantPast(t, next, a, 4, append(slices.Clone(entries), drop, past.Entry{Stamp: 21, Op: rename("one"), Live: true})...)
		}
	}
}

// TestBytesAreNew: also if they are asked for twice.
func TestBytesAreNew(t *testing.T) {
	p := started(t, program, 4)
	do(t, p, 5, add("x"))
	b := p.Bytes()
	kept := slices.Clone(b)
	spoilBytes(p.Bytes())
	if !bytes.Equal(b, kept) {
		t.Error("two results share memory")
	}
}
