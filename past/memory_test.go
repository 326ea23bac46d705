package past_test

import (
	"bytes"
	"slices"
	"testing"

	"hourglass/api"
	"hourglass/past"
	"hourglass/step"
	"hourglass/trial"
)

// TestMemory: nothing that is passed in or returned changes a past afterwards.
func TestMemory(t *testing.T) {
	base := trial.Right(t, trial.Little)
	p, e := past.New(base, 4)
	if e != api.OK {
		t.Fatal(e)
	}
	trial.SpoilArena(base)
	wantPast(t, p, trial.Right(t, trial.Little), 4)
	l := make([]step.Stamped, 2, 9)
	l[0], l[1] = step.Stamped{Stamp: 9, Op: trial.Rename("k")}, step.Stamped{Stamp: 5, Op: trial.Add("x")}
	kept := slices.Clone(l[:cap(l)])
	wantTake(t, p, l, 0, api.OK)
	if !slices.Equal(l[:cap(l)], kept) {
		t.Error("Take has changed its argument")
	}
	trial.Spoil(l, step.Stamped{Stamp: 77, Op: trial.Rename("spoiled")})
	do(t, p, 10, trial.Rename("l"))
	wantUndo(t, p, 9, 0, api.OK)
	want := []past.Entry{{Stamp: 9, Op: trial.Rename("k")}, {Stamp: 5, Op: trial.Add("x"), Live: true}, {Stamp: 10, Op: trial.Rename("l"), Live: true}}
	before := p.Bytes()
	for range 2 {
		trial.SpoilArena(p.Now())
		trial.SpoilArena(p.Base())
		trial.Spoil(p.All(), past.Entry{Stamp: 77, Op: trial.Rename("spoiled")})
		trial.Spoil(p.Live(), step.Stamped{Stamp: 77, Op: trial.Rename("spoiled")})
		trial.Spoil(p.Bytes(), 0xee)
		wantPast(t, p, trial.Right(t, trial.Little), 4, want...)
	}
	q, e := past.Parse(before)
	if e != api.OK {
		t.Fatal(e)
	}
	trial.Spoil(before, 0xee)
	wantPast(t, q, trial.Right(t, trial.Little), 4, want...)
	p.Freeze(0)
	trial.SpoilArena(p.Now())
	trial.SpoilArena(p.Base())
	wantNow(t, p, trial.LittleNamed("l")+" module x { }")
	wantUndo(t, q, 5, 0, api.OK)
}

// TestCopy: what is done to a copy does not change the original, nor the other
// way round.
func TestCopy(t *testing.T) {
	a := trial.Right(t, trial.Little)
	changes := map[string]func(p *past.Past){
		"Do":     func(p *past.Past) { do(t, p, 20, trial.Rename("z")) },
		"Undo":   func(p *past.Past) { wantUndo(t, p, 5, 0, api.OK) },
		"Redo":   func(p *past.Past) { wantRedo(t, p, 6, 0, api.OK) },
		"Take":   func(p *past.Past) { wantTake(t, p, []step.Stamped{{Stamp: 30, Op: trial.Add("z")}}, 0, api.OK) },
		"Freeze": func(p *past.Past) { p.Freeze(9) },
	}
	entries := []past.Entry{{Stamp: 5, Op: trial.Add("x"), Live: true}, {Stamp: 6, Op: trial.Rename("k")}, {Stamp: 7, Op: trial.Add("y"), Live: true}}
	for what, change := range changes {
		for _, original := range []bool{true, false} {
			p := started(t, trial.Little, 4)
			for _, e := range entries {
				do(t, p, e.Stamp, e.Op)
			}
			wantUndo(t, p, 6, 0, api.OK)
			q := p.Copy()
			if !past.Same(p, q) {
				t.Errorf("%s: a copy is not the same", what)
			}
			changed, other := q, p
			if original {
				changed, other = p, q
			}
			change(changed)
			wantPast(t, other, a, 4, entries...)
			if past.Same(p, q) {
				t.Errorf("%s: changes both", what)
			}
			do(t, other, 20, trial.Drop(7))
			next := other.Copy()
			do(t, next, 21, trial.Rename("one"))
			do(t, other, 21, trial.Rename("two"))
			wantNow(t, other, trial.LittleNamed("two")+" module x { }")
			drop := past.Entry{Stamp: 20, Op: trial.Drop(7), Live: true}
			wantPast(t, next, a, 4, append(slices.Clone(entries), drop, past.Entry{Stamp: 21, Op: trial.Rename("one"), Live: true})...)
		}
	}
}

// TestBytesAreNew: also if they are asked for twice.
func TestBytesAreNew(t *testing.T) {
	p := started(t, trial.Little, 4)
	do(t, p, 5, trial.Add("x"))
	b := p.Bytes()
	kept := slices.Clone(b)
	trial.Spoil(p.Bytes(), 0xee)
	if !bytes.Equal(b, kept) {
		t.Error("two results share memory")
	}
}
